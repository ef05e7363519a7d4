import PyProof.Rows.All
import Wide.All
import OpenK.AllK
import Wide.FinOn
import Lean
import PyProof.EqAt
import PyProof.EqKinds
import PyProof.TupleCall
import PySem.Challenge.RW_rowsight_k04_rings_and_who_is_behind
set_option Elab.async false
set_option linter.all false
set_option maxRecDepth 100000
/-! THE HAND LAYER, for ints, bools, texts, own classes, LISTS and tuples (index, slices, in, append, pop ..), calls, loops. Paste it whole ahead of your own text; what your proof does not reach may be deleted. -/
namespace L2
open PySem PySem.Spec PyProof.Rows

/-- a key: an int or a str -/
abbrev Key := Sum Int Str
def keyIs : Key → Value → Bool
  | .inl k, v => Value.isInt k v
  | .inr x, v => Value.isStrOf x v
def keyH (w : World) : Key → Int
  | .inl k => hashInt k
  | .inr x => hashStr w x
theorem keyIs_shape : ∀ {k : Key} {v : Value}, keyIs k v = true → (∃ i t, k = Sum.inl i ∧ v = Value.int i t) ∨ (∃ x t, k = Sum.inr x ∧ v = Value.str x t)
  | .inl i, v, h => by
    obtain ⟨t, e⟩ := Value.isInt_shape (k := i) (v := v) h
    exact .inl ⟨i, t, rfl, e⟩
  | .inr x, v, h => by
    obtain ⟨t, e⟩ := Value.isStrOf_shape (x := x) (v := v) h
    exact .inr ⟨x, t, rfl, e⟩
theorem keyIs_int (i : Int) (t : Tok) : keyIs (.inl i) (.int i t) = true := by simp [keyIs, Value.isInt]
theorem keyIs_str (x : Str) (t : Tok) : keyIs (.inr x) (.str x t) = true := by simp [keyIs, Value.isStrOf]
theorem key_ll (a b : Int) : decide ((Sum.inl a : Key) = Sum.inl b) = (a == b) := by
  by_cases e : a = b
  · subst e; simp
  · have h : ¬ (Sum.inl a : Key) = Sum.inl b := fun q => e (Sum.inl.inj q)
    rw [decide_eq_false h]
    exact (beq_eq_false_iff_ne.mpr e).symm
theorem key_rr (a b : Str) : decide ((Sum.inr a : Key) = Sum.inr b) = decide (a = b) := by
  by_cases e : a = b
  · subst e; simp
  · have h : ¬ (Sum.inr a : Key) = Sum.inr b := fun q => e (Sum.inr.inj q)
    rw [decide_eq_false h, decide_eq_false e]
theorem key_lr (a : Int) (b : Str) : decide ((Sum.inl a : Key) = Sum.inr b) = false := decide_eq_false (fun q => nomatch q)
theorem key_rl (a : Str) (b : Int) : decide ((Sum.inr a : Key) = Sum.inl b) = false := decide_eq_false (fun q => nomatch q)

def mixKind (prog : Program) (w : World) : PySem.KeyKind prog w Key where
  is := keyIs
  hash := keyH w
  inj := fun v a b ha hb => by
    rcases keyIs_shape ha with ⟨i, t, rfl, rfl⟩ | ⟨x, t, rfl, rfl⟩
    · rcases keyIs_shape hb with ⟨j, u, rfl, e⟩ | ⟨y, u, rfl, e⟩
      · injection e with e1 _; rw [e1]
      · exact nomatch e
    · rcases keyIs_shape hb with ⟨j, u, rfl, e⟩ | ⟨y, u, rfl, e⟩
      · exact nomatch e
      · injection e with e1 _; rw [e1]
  byValue := fun k v h => by
    rcases keyIs_shape h with ⟨i, t, rfl, rfl⟩ | ⟨x, t, rfl, rfl⟩ <;> rfl
  pyHash := fun hv h => by
    rcases keyIs_shape hv with ⟨i, t, rfl, rfl⟩ | ⟨x, t, rfl, rfl⟩
    · exact wpAny_pyHash_int h
    · exact wpAny_pyHash_str h
  eqBool := fun hu hv h => by
    rcases keyIs_shape hu with ⟨i, t, rfl, rfl⟩ | ⟨x, t, rfl, rfl⟩
    · rcases keyIs_shape hv with ⟨j, u, rfl, rfl⟩ | ⟨y, u, rfl, rfl⟩
      · rw [key_ll] at h; exact wpAny_eqBool_int h
      · rw [key_lr] at h; exact SeqAt.EqAt.int_str i t y u _ _ _ _ h
    · rcases keyIs_shape hv with ⟨j, u, rfl, rfl⟩ | ⟨y, u, rfl, rfl⟩
      · rw [key_rl] at h; exact SeqAt.EqAt.str_int x t j u _ _ _ _ h
      · rw [key_rr] at h; exact wpAny_eqBool_str h
  «strs» := fun k x t v h => by
    rcases keyIs_shape h with ⟨i, u, rfl, e⟩ | ⟨y, u, rfl, e⟩
    · exact nomatch e
    · injection e with e1 _
      subst e1
      cases v <;> rfl

theorem mixKind_is (prog : Program) (w : World) (k : Key) (v : Value) : (mixKind prog w).is k v = keyIs k v := rfl
theorem mixKind_int (prog : Program) (w : World) (i : Int) (t : Tok) : (mixKind prog w).is (.inl i) (.int i t) = true := keyIs_int i t
theorem mixKind_str (prog : Program) (w : World) (x : Str) (t : Tok) : (mixKind prog w).is (.inr x) (.str x t) = true := keyIs_str x t
end L2

namespace L2
open PySem PySem.Spec PyProof.Rows

/-- a value, without the heap -/
inductive V where
  | non | bl (b : Bool) | int (i : Int) | str (x : Str) | byt (b : Array UInt8) | flt (b : UInt64) | ref (a : Addr) | ty (n : String)
  deriving DecidableEq

def RelV : V → Value → Prop
  | .non, u => u = Value.none
  | .bl b, u => u = Value.bool b
  | .int i, u => ∃ t, u = Value.int i t
  | .str x, u => ∃ t, u = Value.str x t
  | .byt b, u => ∃ t, u = Value.bytes b t
  | .flt b, u => ∃ t, u = Value.float b t
  | .ref a, u => u = Value.ref a
  | .ty n, u => u = Value.type n

abbrev Vals : List V → List Value → Prop := Paired RelV
theorem Vals.length {xs : List V} {us : List Value} (r : Vals xs us) : xs.length = us.length := Paired.length r
theorem Vals.get : ∀ {xs : List V} {us : List Value} {i : Nat} {x : V}, Vals xs us → xs[i]? = some x → ∃ u, us[i]? = some u ∧ RelV x u
  | _, _, _, _, .nil, e => by simp at e
  | _, _, 0, _, .cons r _, e => by simp at e; subst e; exact ⟨_, rfl, r⟩
  | _, _, i + 1, x, .cons _ t, e => by
    obtain ⟨u, h1, h2⟩ := Vals.get (i := i) (x := x) t (by simpa using e)
    exact ⟨u, by simpa using h1, h2⟩
theorem Vals.set {x : V} {u : Value} (r : RelV x u) : ∀ {xs : List V} {us : List Value} (i : Nat), Vals xs us → Vals (xs.set i x) (us.set i u)
  | _, _, _, .nil => .nil
  | _, _, 0, .cons _ t => .cons r t
  | _, _, i + 1, .cons q t => .cons q (Vals.set r i t)
theorem Vals.append : ∀ {xs ys : List V} {us ws : List Value}, Vals xs us → Vals ys ws → Vals (xs ++ ys) (us ++ ws)
  | _, _, _, _, .nil, s => s
  | _, _, _, _, .cons r t, s => .cons r (Vals.append t s)
theorem Vals.take : ∀ {xs : List V} {us : List Value} (n : Nat), Vals xs us → Vals (xs.take n) (us.take n)
  | _, _, 0, _ => .nil
  | _, _, _ + 1, .nil => .nil
  | _, _, n + 1, .cons r t => .cons r (Vals.take n t)
theorem Vals.drop : ∀ {xs : List V} {us : List Value} (n : Nat), Vals xs us → Vals (xs.drop n) (us.drop n)
  | _, _, 0, r => r
  | _, _, _ + 1, .nil => .nil
  | _, _, n + 1, .cons _ t => Vals.drop n t
def RelO : Option V → Option Value → Prop
  | some v, some u => RelV v u
  | none, none => True
  | _, _ => False
def KV {κ : Type} : List (κ × V) → List (κ × Value) → Prop := Paired fun (p : κ × V) (q : κ × Value) => p.1 = q.1 ∧ RelV p.2 q.2

/-- a key of a dict (00_mix): an int or a text -/
def kV : Key → V
  | .inl i => .int i
  | .inr x => .str x

/-- what stands at a tracked address -/
inductive HO where
  /-- a list -/
  | lst (xs : List V)
  /-- a tuple (never changes) -/
  | tup (xs : List V)
  /-- a dict whose keys are ints and texts; one whose keys are tuples of ints and texts (the empty one is both) -/
  | dK (kvs : List (Key × V)) | dT (kvs : List (List Key × V))
  /-- a set of ints: its members, its size -/
  | set (S : Int → Bool) (n : Nat)
  /-- an instance of the class at C, its dict at dx, its attributes -/
  | ins (C dx : Addr) (fs : List (Str × V))
  /-- the dict of the instance at x -/
  | own (x : Addr)
  /-- the dict of an exception -/
  | xd (fs : List (Str × V))
  /-- a bound method, f of x -/
  | met (f x : Addr)
  /-- a range object lo, lo + 1, .. below hi -/
  | rng (lo hi : Int)
  /-- a thing that is known to the object (the script; a dict while a loop walks it): read, never written while it is so -/
  | frz (o : Obj) (u : HO)
  /-- a code object's table -/
  | tbl (ps : Array Value)
  /-- any other thing, by what is true of its one object (a def of one's own: SetO a S n := HO.ext fun h => ..) -/
  | ext (φ : Heap → Prop)

abbrev Hp := Addr → Option HO
def upd (H : Hp) (a : Addr) (o : HO) : Hp := fun b => if b = a then some o else H b
theorem upd_same {H : Hp} {a : Addr} {o : HO} : upd H a o a = some o := by unfold upd; rw [if_pos rfl]
theorem upd_ne {H : Hp} {a b : Addr} {o : HO} (h : b ≠ a) : upd H a o b = H b := by unfold upd; rw [if_neg h]
/-- two objects of different content stand apart -/
theorem ne_of {H : Hp} {a b : Addr} {o u : HO} (h : H a = some o) (h' : H b = some u) (d : o ≠ u) : a ≠ b := by
  intro e; subst e; rw [h] at h'; exact d (Option.some.inj h')
theorem ne_of_none {H : Hp} {a b : Addr} {o : HO} (h : H a = some o) (h' : H b = none) : a ≠ b := by
  intro e; subst e; rw [h] at h'; cases h'

section
variable (P : Program) (w : World)
def ObjOk (H : Hp) (h : Heap) (a : Addr) : HO → Prop
  | .lst xs => xs.length ≤ sizeLine ∧ ∃ (its : List Value) (n : Nat), Vals xs its ∧ h.get? a = some { cls := .type "list", data := .seq its.toArray n }
  | .tup xs => xs.length ≤ sizeLine ∧ ∃ its : List Value, Vals xs its ∧ IsTup h a its.toArray
  | .dK kvs => kvs.length ≤ sizeLine ∧ (a == sysModules) = false ∧ ∃ vs, KV kvs vs ∧ h.DictOf (mixKind P w) a vs
  | .dT kvs => kvs.length ≤ sizeLine ∧ (a == sysModules) = false ∧ ∃ xs : List (List Key × Addr × Value),
      Paired (fun (p : List Key × V) (q : List Key × Addr × Value) => p.1 = q.1 ∧ H q.2.1 = some (.tup (p.1.map kV)) ∧ RelV p.2 q.2.2) kvs xs ∧
      ∃ o es ep, h.get? a = some o ∧ o.ExactDict ∧ o.data = .dict es ep ∧ es.toList = xs.map (entryOfKey (tupleKind (mixKind P w))) ∧ (xs.map (·.1)).Nodup
  | .set S n => h.SetOf (intKind P w) a S n
  | .ins C dx fs => H dx = some (.own a) ∧ fs.length ≤ 1000 ∧ dx ≠ a ∧ h.get? a = some (PySem.W.instObj C dx) ∧
      ∃ mA, h.Ns1 dx mA ∧ (∀ f, RelO (fs.lookup f) (mA f)) ∧ PySem.Within mA (fs.map (·.1))
  | .own _ => ∃ o, h.get? a = some o
  | .xd fs => ∃ mA, h.Ns1 a mA ∧ ∀ f, RelO (fs.lookup f) (mA f)
  | .rng lo hi => ∃ t u v, h.get? a = some { cls := .type "range", data := .fields #[.int lo t, .int hi u, .int 1 v] }
  | .frz o u => h.get? a = some o ∧ ObjOk H h a u
  | .tbl ps => h.get? a = some { cls := .none, data := .fields ps }
  | .met f x => h.get? a = some (PySem.W.methodObj (.ref f) (.ref x))
  | .ext φ => φ h ∧ (∃ o, h.get? a = some o) ∧ ∀ h1 h2 : Heap, φ h1 → (∀ o, h1.get? a = some o → h2.get? a = some o) → φ h2
/-- the abstract heap is held -/
def HOk (H : Hp) (h : Heap) : Prop := ∀ a o, H a = some o → ObjOk P w H h a o
end

section
variable {P : Program} {w : World} {H H' : Hp} {h h' : Heap} {a : Addr} {o : HO}
theorem ObjOk.lt (x : ObjOk P w H h a o) : a < h.objs.size := by
  cases o with
  | lst xs => obtain ⟨_, _, _, _, e⟩ := x; exact Heap.lt_size e
  | tup xs => obtain ⟨_, _, _, p⟩ := x; exact p.lt
  | dK kvs => obtain ⟨_, _, _, _, o, _, _, e, _⟩ := x; exact Heap.lt_size e
  | dT kvs => obtain ⟨_, _, _, _, o, _, _, e, _⟩ := x; exact Heap.lt_size e
  | set S n => obtain ⟨o, _, _, _, e, _⟩ := x; exact Heap.lt_size e
  | ins C dx fs => obtain ⟨_, _, _, e, _⟩ := x; exact Heap.lt_size e
  | own y => obtain ⟨_, e⟩ := x; exact Heap.lt_size e
  | xd fs => obtain ⟨_, ⟨_, _, _, e, _⟩, _⟩ := x; exact Heap.lt_size e
  | rng lo hi => obtain ⟨_, _, _, e⟩ := x; exact Heap.lt_size e
  | frz ob u => obtain ⟨e, _⟩ := x; exact Heap.lt_size e
  | tbl ps => exact Heap.lt_size (show h.get? a = some _ from x)
  | met f y => exact Heap.lt_size (show h.get? a = some _ from x)
  | ext φ => obtain ⟨_, ⟨_, e⟩, _⟩ := x; exact Heap.lt_size e
theorem Paired.mapP {α β : Type} {F G : α → β → Prop} : ∀ {l₁ : List α} {l₂ : List β}, Paired F l₁ l₂ → (∀ a b, F a b → G a b) → Paired G l₁ l₂
  | _, _, .nil, _ => .nil
  | _, _, .cons r t, f => .cons (f _ _ r) (Paired.mapP t f)
/-- what an object's description leans on: its own object, its own dict, the tuples -/
theorem ObjOk.stay (x : ObjOk P w H h a o) (k : ∀ b u, (b = a ∨ H b = some (.own a)) → h.get? b = some u → h'.get? b = some u)
    (ho : ∀ b, H b = some (.own a) → H' b = some (.own a)) (ht : ∀ b xs, H b = some (.tup xs) → H' b = some (.tup xs)) : ObjOk P w H' h' a o := by
  induction o with
  | lst xs => obtain ⟨z, its, n, r, e⟩ := x; exact ⟨z, its, n, r, k _ _ (.inl rfl) e⟩
  | tup xs => obtain ⟨z, its, r, ob, e, c⟩ := x; exact ⟨z, its, r, ob, k _ _ (.inl rfl) e, c⟩
  | dK kvs => obtain ⟨z, y, vs, r, ob, es, ep, e, c⟩ := x; exact ⟨z, y, vs, r, ob, es, ep, k _ _ (.inl rfl) e, c⟩
  | dT kvs =>
    obtain ⟨z, y, xs, r, ob, es, ep, e, c⟩ := x
    exact ⟨z, y, xs, Paired.mapP r fun p q z => ⟨z.1, ht _ _ z.2.1, z.2.2⟩, ob, es, ep, k _ _ (.inl rfl) e, c⟩
  | set S n => obtain ⟨ob, es, ep, t, e, c⟩ := x; exact ⟨ob, es, ep, t, k _ _ (.inl rfl) e, c⟩
  | ins C dx fs =>
    obtain ⟨d, z, ne, e, mA, ⟨od, es, ep, e2, c⟩, r⟩ := x
    exact ⟨ho _ d, z, ne, k _ _ (.inl rfl) e, mA, ⟨od, es, ep, k _ _ (.inr d) e2, c⟩, r⟩
  | own y => obtain ⟨ob, e⟩ := x; exact ⟨ob, k _ _ (.inl rfl) e⟩
  | xd fs => obtain ⟨mA, ⟨od, es, ep, e, c⟩, r⟩ := x; exact ⟨mA, ⟨od, es, ep, k _ _ (.inl rfl) e, c⟩, r⟩
  | rng lo hi => obtain ⟨t, u, v, e⟩ := x; exact ⟨t, u, v, k _ _ (.inl rfl) e⟩
  | frz ob u ih => obtain ⟨e, q⟩ := x; exact ⟨k _ _ (.inl rfl) e, ih q⟩
  | tbl ps =>
    have e : h.get? a = some { cls := .none, data := .fields ps } := x
    show h'.get? a = some { cls := .none, data := .fields ps }
    exact k a _ (.inl rfl) e
  | met f y =>
    have e : h.get? a = some (PySem.W.methodObj (.ref f) (.ref y)) := x
    show h'.get? a = some (PySem.W.methodObj (.ref f) (.ref y))
    exact k a _ (.inl rfl) e
  | ext φ => obtain ⟨p, ⟨o, e⟩, st⟩ := x; exact ⟨st _ _ p fun o q => k _ _ (.inl rfl) q, ⟨o, k _ _ (.inl rfl) e⟩, st⟩
theorem HOk.lt (x : HOk P w H h) (e : H a = some o) : a < h.objs.size := (x a o e).lt
theorem HOk.fresh (x : HOk P w H h) (e : h.objs.size ≤ a) : H a = none := by
  cases q : H a with
  | none => rfl
  | some u => exact absurd (Nat.lt_of_lt_of_le (x.lt q) e) (Nat.lt_irrefl _)
/-- every object of the heap is kept -/
theorem HOk.kept (x : HOk P w H h) (k : ∀ b u, h.get? b = some u → h'.get? b = some u) : HOk P w H h' := fun a o e =>
  (x a o e).stay (fun b u _ q => k b u q) (fun _ q => q) fun _ _ q => q
/-- a new object is laid and tracked -/
theorem HOk.laid (x : HOk P w H h) (k : ∀ b u, h.get? b = some u → h'.get? b = some u) (hp : h.objs.size ≤ a) (new : ObjOk P w (upd H a o) h' a o) : HOk P w (upd H a o) h' := fun b u e => by
  have hn := x.fresh hp
  by_cases hb : b = a
  · subst hb; rw [upd_same] at e; cases e; exact new
  · rw [upd_ne hb] at e
    exact (x b u e).stay (fun c v _ q => k c v q) (fun c q => by rw [upd_ne (ne_of_none q hn)]; exact q) fun c xs q => by rw [upd_ne (ne_of_none q hn)]; exact q
end

/-- what may be read as u: it is u, or a known u -/
def Rd (H : Hp) (a : Addr) (u : HO) : Prop := H a = some u ∨ ∃ o, H a = some (.frz o u)
theorem Rd.of {H : Hp} {a : Addr} {u : HO} (h : H a = some u) : Rd H a u := .inl h
theorem Rd.ok {P : Program} {w : World} {H : Hp} {h : Heap} {a : Addr} {u : HO} (r : Rd H a u) (x : HOk P w H h) : ObjOk P w H h a u := by
  rcases r with r | ⟨o, r⟩
  · exact x a u r
  · obtain ⟨_, q⟩ := x a _ r
    exact q
/-- what may be written -/
def Mut : Option HO → Prop
  | some (.lst _) => True
  | some (.dK _) => True
  | some (.dT _) => True
  | some (.set _ _) => True
  | some (.ins _ _ _) => True
  | some (.ext _) => True
  | _ => False
section
variable {P : Program} {w : World} {H : Hp} {h h' : Heap} {x e : Addr} {o' : HO}
/-- the object at e is changed: x itself, or the dict of the instance x -/
theorem HOk.write (ok : HOk P w H h) (mu : Mut (H x)) (he : e = x ∨ H e = some (.own x)) (k : ∀ b u, b ≠ e → h.get? b = some u → h'.get? b = some u) (heo : ∃ u, h'.get? e = some u)
    (new : ObjOk P w (upd H x o') h' x o') : HOk P w (upd H x o') h' := fun b u q => by
  have nown : ∀ c y, H c = some (.own y) → c ≠ x := fun c y r z => by subst z; rw [r] at mu; exact mu
  have ntup : ∀ c xs, H c = some (.tup xs) → c ≠ x := fun c xs r z => by subst z; rw [r] at mu; exact mu
  by_cases hb : b = x
  · subst hb; rw [upd_same] at q; cases q; exact new
  · rw [upd_ne hb] at q
    by_cases hbe : b = e
    · have q' : H b = some (.own x) := by
        rcases he with z | z
        · exact absurd (hbe.trans z) hb
        · rw [hbe]; exact z
      rw [q] at q'; cases q'
      obtain ⟨v, hv⟩ := heo
      exact ⟨v, by rw [hbe]; exact hv⟩
    · refine (ok b u q).stay (fun c v hc r => k c v ?_ r) (fun c r => by rw [upd_ne (nown c b r)]; exact r) fun c xs r => by rw [upd_ne (ntup c xs r)]; exact r
      rcases hc with rfl | hc
      · exact hbe
      · rintro rfl
        rcases he with z | z
        · exact nown c b hc z
        · rw [hc] at z; cases z; exact hb rfl
end

/-! ### kept unless tracked; of the frames at fs (the callers') the slots may change (an exception that passes writes there); of the records at ex (iterators) nothing is said -/
structure Un (fs ex : List Addr) (H H' : Hp) (h h' : Heap) : Prop where
  keep : ∀ b o, h.get? b = some o → H b = none → b ∉ fs → b ∉ ex → h'.get? b = some o
  slot : ∀ b o, h.get? b = some o → H b = none → b ∈ fs → b ∉ ex → ∃ sl, h'.get? b = some { o with slots := sl }
  free : ∀ b o, h.get? b = some o → H b = none → b ∉ ex → H' b = none
  there : ∀ b o, h.get? b = some o → b ∉ ex → ∃ o', h'.get? b = some o'
  tups : ∀ b xs, H b = some (.tup xs) → H' b = some (.tup xs)
  frzs : ∀ b o u, H b = some (.frz o u) → H' b = some (.frz o u)
  tbls : ∀ b ps, H b = some (.tbl ps) → ∃ more, H' b = some (.tbl (ps ++ more))
section
variable {fs fs' ex ex' : List Addr} {H H1 H2 : Hp} {h h1 h2 h' : Heap} {a x e : Addr} {o : HO}
theorem Un.any (u : Un fs ex H H1 h h1) {b : Addr} {ob : Obj} (q : h.get? b = some ob) (n : H b = none) (hx : b ∉ ex) : ∃ sl, h1.get? b = some { ob with slots := sl } := by
  by_cases hb : b ∈ fs
  · exact u.slot b ob q n hb hx
  · exact ⟨ob.slots, u.keep b ob q n hb hx⟩
theorem Un.trans (a : Un fs ex H H1 h h1) (b : Un fs ex H1 H2 h1 h2) : Un fs ex H H2 h h2 where
  keep := fun c ob q n hc hx => b.keep c ob (a.keep c ob q n hc hx) (a.free c ob q n hx) hc hx
  slot := fun c ob q n hc hx => by
    obtain ⟨sl, e1⟩ := a.slot c ob q n hc hx
    obtain ⟨sl', e2⟩ := b.slot c _ e1 (a.free c ob q n hx) hc hx
    exact ⟨sl', e2⟩
  free := fun c ob q n hx => by
    obtain ⟨o', e1⟩ := a.there c ob q hx
    exact b.free c o' e1 (a.free c ob q n hx) hx
  there := fun c ob q hx => by
    obtain ⟨o', e1⟩ := a.there c ob q hx
    exact b.there c o' e1 hx
  tups := fun c xs q => b.tups c xs (a.tups c xs q)
  frzs := fun c ob xs q => b.frzs c ob xs (a.frzs c ob xs q)
  tbls := fun c ps q => by
    obtain ⟨m1, e1⟩ := a.tbls c ps q
    obtain ⟨m2, e2⟩ := b.tbls c _ e1
    exact ⟨m1 ++ m2, by rw [e2, Array.append_assoc]⟩
theorem Un.kept (k : ∀ b u, h.get? b = some u → h'.get? b = some u) : Un fs ex H H h h' :=
  ⟨fun b ob q _ _ _ => k b ob q, fun b ob q _ _ _ => ⟨ob.slots, k b ob q⟩, fun _ _ _ n _ => n, fun b ob q _ => ⟨ob, k b ob q⟩, fun _ _ q => q, fun _ _ _ q => q, fun _ ps q => ⟨#[], by rw [q]; simp⟩⟩
theorem Un.refl : Un fs ex H H h h := Un.kept fun _ _ q => q
theorem Un.laid (k : ∀ b u, h.get? b = some u → h'.get? b = some u) (hp : h.objs.size ≤ a) (hn : H a = none) : Un fs ex H (upd H a o) h h' where
  keep := fun b u q _ _ _ => k b u q
  slot := fun b u q _ _ _ => ⟨u.slots, k b u q⟩
  free := fun b u q n _ => by rw [upd_ne (Nat.ne_of_lt (Nat.lt_of_lt_of_le (Heap.lt_size q) hp))]; exact n
  there := fun b u q _ => ⟨u, k b u q⟩
  tups := fun b xs q => by rw [upd_ne (ne_of_none q hn)]; exact q
  frzs := fun b u xs q => by rw [upd_ne (ne_of_none q hn)]; exact q
  tbls := fun b ps q => ⟨#[], by rw [upd_ne (ne_of_none q hn), q]; simp⟩
theorem Un.write (mu : Mut (H x)) (he : e = x ∨ H e = some (.own x)) (k : ∀ b u, b ≠ e → h.get? b = some u → h'.get? b = some u) (heo : ∃ u, h'.get? e = some u) : Un fs ex H (upd H x o) h h' := by
  have hx : ∀ b, H b = none → b ≠ x := fun b n z => by subst z; rw [n] at mu; exact mu
  have hb : ∀ b, H b = none → b ≠ e := fun b n z => by
    subst z
    rcases he with r | r
    · exact hx b n r
    · rw [n] at r; cases r
  have hm : ∀ b u, H b = some u → ¬ Mut (some u) → b ≠ x := fun b u q nm z => by subst z; rw [q] at mu; exact nm mu
  refine ⟨fun b u q n _ _ => k b u (hb b n) q, fun b u q n _ _ => ⟨u.slots, k b u (hb b n) q⟩, fun b u q n _ => by rw [upd_ne (hx b n)]; exact n, fun b u q _ => ?_,
    fun b xs q => by rw [upd_ne (hm b _ q fun z => z)]; exact q, fun b u xs q => by rw [upd_ne (hm b _ q fun z => z)]; exact q, fun b ps q => ⟨#[], by rw [upd_ne (hm b _ q fun z => z), q]; simp⟩⟩
  by_cases hbe : b = e
  · subst hbe; exact heo
  · exact ⟨u, k b u hbe q⟩
theorem Un.mono (u : Un fs ex H H1 h h1) (hs : ∀ b ∈ fs, b ∈ fs') (hx : ∀ b ∈ ex, b ∈ ex') : Un fs' ex' H H1 h h1 :=
  ⟨fun b ob q n hb he => u.keep b ob q n (fun z => hb (hs b z)) fun z => he (hx b z), fun _ _ q n _ he => u.any q n fun z => he (hx _ z), fun b ob q n he => u.free b ob q n fun z => he (hx b z), fun b ob q he => u.there b ob q fun z => he (hx b z), u.tups, u.frzs, u.tbls⟩
end

/-! ### the heap without what is tracked -/
def trk (h : Heap) (H : Hp) : List Addr := (List.range h.objs.size).filter fun a => (H a).isSome
def hidT (h : Heap) (H : Hp) : Heap := PySem.W.hideAll h (trk h H)
theorem hidT_size (h : Heap) (H : Hp) : (hidT h H).objs.size = h.objs.size := PySem.W.hideAll_size _ _
theorem hidT_get {h : Heap} {H : Hp} {b : Addr} {o : Obj} (e : h.get? b = some o) (n : H b = none) : (hidT h H).get? b = some o :=
  PySem.W.hideAll_get _ e fun hm => by
    have q : (H b).isSome = true := (List.mem_filter.mp hm).2
    rw [n] at q; simp at q
theorem of_hidT {h : Heap} {H : Hp} {b : Addr} {o : Obj} (e : (hidT h H).get? b = some o) : h.get? b = some o ∧ H b = none := by
  have e' : h.get? b = some o := PySem.W.of_hideAll (trk h H) e
  refine ⟨e', ?_⟩
  cases q : H b with
  | none => rfl
  | some x =>
    have hm : b ∈ trk h H := List.mem_filter.mpr ⟨List.mem_range.mpr (Heap.lt_size e'), by simp [q]⟩
    have z : (hidT h H).get? b = none := PySem.W.hideAll_none (trk h H) hm
    rw [z] at e; cases e

/-! ### OpenK's ledger, filled with every new object but one -/
def allNews (g h : Heap) (L : Addr) : List (Addr × Obj) := (List.range h.objs.size).filterMap fun a => if a = L ∨ (g.get? a).isSome = true then none else (h.get? a).map fun o => (a, o)
def rest (g h : Heap) (L d : Addr) : List (Addr × Obj) := (allNews g h L).filter fun p => decide (p.1 ≠ d)
end L2

namespace L2
open PySem PySem.Spec PyProof.Rows

/-- the module's facts, over the base: the heap at the law's entry without what is tracked there -/
structure Mod (K : PySem.W.Frag) (mg : Str → Option Value) (base : Heap) : Prop where
  kin : K.In base
  glob : base.Ns mainGlobals mg
  blt : ∃ mb, base.Ns builtinsNs mb ∧ ∀ x : Str, x ≠ "__name__" → mb x = bootBuiltins x
  nolimit : base.NoLimit

/-- the context: a def's body (or a comprehension's block) running. base: fixed through the whole law; s₀, H₀: the entry; outer: the frames whose slots others may change (a def's callers); stack: all frames that run;
   ex: iterators that were made ahead of the entry and are walked here (a comprehension's); fn: the names whose cells were made at the entry (a def: all; a comprehension's block: its own); calm: not within an except suite; pn: pins that every state bears; xe: what is wanted of an exception that leaves the code -/
structure Cx where
  prog : Program
  w : World
  K : PySem.W.Frag
  mg : Str → Option Value
  base : Heap
  A : Around
  N : List Str
  s₀ : Shared
  H₀ : Hp
  env : Env
  outer : List Env
  stack : List Env
  ex : List Addr
  fn : Str → Bool
  calm : Bool
  pn : List (Addr × Obj)
  xe : Value → Shared → Prop
/-- the callers' frames -/
def frs (l : List Env) : List Addr := l.filterMap (·.frame)
abbrev Cx.fs (X : Cx) : List Addr := frs X.outer

def Vis (sc : Scope) (x : Str) : Prop := sc.names.lookup x = some .local ∨ sc.names.lookup x = some .cell ∨ sc.names.lookup x = some .free
def Loc (sc : Scope) (x : Str) : Prop := sc.names.lookup x = some .local ∨ sc.names.lookup x = some .cell
def Look (env : Env) (h : Heap) (m : Str → Option Value) (x : Str) (u : Value) : Prop :=
  (env.kindOf x = some .local ∧ m x = some u) ∨ ((env.kindOf x = some .cell ∨ env.kindOf x = some .free) ∧ ∃ c, env.cells.lookup x = some c ∧ h.IsCell c (some u))

structure Cx.Ok (X : Cx) : Prop where
  mod : Mod X.K X.mg X.base
  kind : X.env.scope.kind = .function
  glob : X.env.globals = mainGlobals
  blt : X.env.builtins = builtinsNs
  above : X.s₀.heap.objs.size ≤ X.env.locals
  inj : ∀ x y c, X.env.cells.lookup x = some c → X.env.cells.lookup y = some c → x = y
  has : ∀ x, (X.env.kindOf x = some .cell ∨ X.env.kindOf x = some .free) → ∃ c, X.env.cells.lookup x = some c
  cab : ∀ x c, X.fn x = true → X.env.cells.lookup x = some c → X.s₀.heap.objs.size ≤ c
  hd : X.calm = true → X.A.handled = none
  frames : X.A.frames = some X.stack
  stk : X.stack = X.outer ∨ (X.stack = X.env :: X.outer ∧ X.env.frame = some X.env.locals)
  exf : ∀ b ∈ X.ex, b ≠ X.env.locals ∧ ∀ x c, X.env.cells.lookup x = some c → c ≠ b
  bs : ∀ b o, X.base.get? b = some o → X.s₀.heap.get? b = some o ∧ X.H₀ b = none
  bsz : X.base.objs.size ≤ X.s₀.heap.objs.size
  noex : ∀ b o, X.base.get? b = some o → b ∉ X.ex
  exfs : ∀ b ∈ X.ex, b ∉ X.fs
  funs : X.s₀.heap.FunFrames X.base X.outer
  frf : ∀ b ∈ X.fs, X.H₀ b = none

structure Inv (X : Cx) (pins : List (Addr × Obj)) (σ : List (Option V)) (H : Hp) (s : Shared) : Prop where
  ok : X.Ok
  os : s.os = X.s₀.os
  bare : AllBare s.gens
  base : Un X.fs X.ex X.H₀ H X.s₀.heap s.heap
  loc : ∃ m, s.heap.Ns X.env.locals m ∧ ∀ (i : Nat) (x : Str) (v : V), X.N[i]? = some x → σ[i]? = some (some v) → Vis X.env.scope x → ∃ u, RelV v u ∧ Look X.env s.heap m x u
  cell : ∀ x c, X.env.cells.lookup x = some c → ∃ v, s.heap.IsCell c v
  free : H X.env.locals = none
  freeC : ∀ x c, X.env.cells.lookup x = some c → H c = none
  pin : ∀ p ∈ X.pn ++ pins, s.heap.get? p.1 = some p.2 ∧ H p.1 = none ∧ p.1 ≠ X.env.locals ∧ p.1 ∉ X.fs ∧ ∀ v, p.2.data ≠ .cell v
  hok : HOk X.prog X.w H s.heap
  len : σ.length = X.N.length

section
variable {X : Cx} {pins : List (Addr × Obj)} {σ : List (Option V)} {H H' : Hp} {s : Shared} {h' : Heap}

theorem Cx.Ok.nofr (ok : X.Ok) {b : Addr} {o : Obj} (e : X.base.get? b = some o) : b ∉ X.fs := fun hb => by
  have := (ok.funs.mem hb).1
  rw [e] at this; cases this
theorem Inv.bs (I : Inv X pins σ H s) : ∀ b o, X.base.get? b = some o → s.heap.get? b = some o ∧ H b = none := fun b o e =>
  ⟨I.base.keep b o (I.ok.bs b o e).1 (I.ok.bs b o e).2 (I.ok.nofr e) (I.ok.noex b o e), I.base.free b o (I.ok.bs b o e).1 (I.ok.bs b o e).2 (I.ok.noex b o e)⟩
theorem Inv.bk (I : Inv X pins σ H s) : ∀ b o, X.base.get? b = some o → s.heap.get? b = some o := fun b o e => (I.bs b o e).1
theorem Inv.mod (I : Inv X pins σ H s) : Mod X.K X.mg X.base := I.ok.mod
theorem Inv.kIn (I : Inv X pins σ H s) : X.K.In s.heap := I.ok.mod.kin.keeps I.bk
theorem Inv.nolimit (I : Inv X pins σ H s) : s.heap.NoLimit := I.ok.mod.nolimit.keeps I.bk
/-- the frame over the base: for OpenK's rules (K.In X.base is I.mod.kin) -/
theorem Inv.fr (I : Inv X pins σ H s) : ∃ m, Fr X.base X.env.locals s.heap m :=
  let ⟨m, hn, _⟩ := I.loc
  ⟨m, hn, I.bk, Nat.le_trans I.ok.bsz I.ok.above⟩
theorem Inv.lt (I : Inv X pins σ H s) : X.env.locals < s.heap.objs.size := let ⟨_, hn, _⟩ := I.loc; hn.lt
theorem Inv.sz (I : Inv X pins σ H s) : X.s₀.heap.objs.size ≤ s.heap.objs.size := Nat.le_trans I.ok.above (Nat.le_of_lt I.lt)
theorem Inv.nofs (I : Inv X pins σ H s) {a : Addr} (h : s.heap.objs.size ≤ a) : a ∉ X.fs := fun hb => by
  obtain ⟨_, o, ho, _⟩ := I.ok.funs.mem hb
  exact absurd (Nat.lt_of_lt_of_le (Heap.lt_size ho) (Nat.le_trans I.sz h)) (Nat.lt_irrefl _)
theorem Inv.cne (I : Inv X pins σ H s) : ∀ x c, X.env.cells.lookup x = some c → c ≠ X.env.locals := fun x c e z => by
  obtain ⟨v, o, ho, hd⟩ := I.cell x c e
  obtain ⟨m, ⟨o', es, ep, ho', hd', _⟩, _⟩ := I.loc
  rw [z, ho'] at ho; cases ho; rw [hd'] at hd; cases hd
theorem Inv.funs (I : Inv X pins σ H s) : s.heap.FunFrames X.base X.outer := by
  have all : ∀ (l : List Env), (∀ b ∈ frs l, b ∈ X.fs) → X.s₀.heap.FunFrames X.base l → s.heap.FunFrames X.base l := by
    intro l
    induction l with
    | nil => intro _ _; trivial
    | cons env r ih =>
      intro hs hl
      obtain ⟨hk, ⟨L, o, hf, hn, ho, hd⟩, hr⟩ := hl
      have hL : L ∈ X.fs := hs L (by unfold frs; rw [List.filterMap_cons, hf]; exact List.mem_cons_self)
      obtain ⟨sl, e⟩ := I.base.slot L o ho (I.ok.frf L hL) hL fun z => I.ok.exfs L z hL
      exact ⟨hk, ⟨L, _, hf, hn, e, hd⟩, ih (fun b hb => hs b (by unfold frs; rw [List.filterMap_cons, hf]; exact List.mem_cons_of_mem _ hb)) hr⟩
  exact all X.outer (fun _ hb => hb) I.ok.funs

/-- the frames that run, for a call -/
theorem Inv.stack (I : Inv X pins σ H s) : s.heap.FunFrames X.base X.stack := by
  rcases I.ok.stk with e | ⟨e, hf⟩
  · rw [e]; exact I.funs
  · rw [e]
    obtain ⟨m, hn, _⟩ := I.loc
    refine .cons (by rw [I.ok.kind]; decide) hf hn ?_ I.funs
    exact Heap.get?_none_of_le (Nat.le_trans I.ok.bsz I.ok.above)
theorem Inv.stkSub (I : Inv X pins σ H s) : ∀ b ∈ frs X.stack, b ∈ X.env.locals :: X.fs := fun b hb => by
  rcases I.ok.stk with e | ⟨e, hf⟩
  · rw [e] at hb; exact List.mem_cons_of_mem _ hb
  · rw [e] at hb
    unfold frs at hb
    rw [List.filterMap_cons, hf] at hb
    exact hb
theorem Inv.stkFree (I : Inv X pins σ H s) : ∀ b ∈ frs X.stack, H b = none := fun b hb => by
  rcases List.mem_cons.mp (I.stkSub b hb) with e | hb
  · rw [e]; exact I.free
  · obtain ⟨_, o, ho, _⟩ := I.ok.funs.mem hb
    exact I.base.free b o ho (I.ok.frf b hb) fun z => I.ok.exfs b z hb

/-- THE STEP: the untracked objects but the frame and the records at ch are kept (the callers' frames up to slots), the frame's map is kept, the new abstract heap is held -/
theorem Inv.step {g' : Array GenState} {t' : Nat} {d' : Drawn} {ch : List Addr} (I : Inv X pins σ H s)
    (hch : ∀ b ∈ ch, (b ∈ X.ex ∨ X.s₀.heap.objs.size ≤ b) ∧ b ≠ X.env.locals ∧ (∀ x c, X.env.cells.lookup x = some c → c ≠ b) ∧ ∀ p ∈ X.pn ++ pins, p.1 ≠ b)
    (keep : ∀ b o, b ≠ X.env.locals → b ∉ X.fs → b ∉ ch → s.heap.get? b = some o → H b = none → h'.get? b = some o)
    (slot : ∀ b o, b ≠ X.env.locals → b ∈ X.fs → b ∉ ch → s.heap.get? b = some o → H b = none → ∃ sl, h'.get? b = some { o with slots := sl }) (free : ∀ b o, b ∉ ch → s.heap.get? b = some o → H b = none → H' b = none)
    (there : ∀ b o, b ∉ ch → s.heap.get? b = some o → ∃ o', h'.get? b = some o')
    (tups : ∀ b xs, H b = some (.tup xs) → H' b = some (.tup xs)) (frzs : ∀ b o u, H b = some (.frz o u) → H' b = some (.frz o u)) (tbls : ∀ b ps, H b = some (.tbl ps) → ∃ more, H' b = some (.tbl (ps ++ more)))
    (ns : ∀ m, s.heap.Ns X.env.locals m → h'.Ns X.env.locals m) (hok : HOk X.prog X.w H' h') (hg : AllBare g') :
    Inv X pins σ H' { s with heap := h', gens := g', drawn := d', toks := t' } := by
  have neL : ∀ b o, X.s₀.heap.get? b = some o → b ≠ X.env.locals := fun b o e => Nat.ne_of_lt (Nat.lt_of_lt_of_le (Heap.lt_size e) I.ok.above)
  have neC : ∀ b o, X.s₀.heap.get? b = some o → b ∉ X.ex → b ∉ ch := fun b o e hx hb => by
    rcases (hch b hb).1 with z | z
    · exact hx z
    · exact absurd (Nat.lt_of_lt_of_le (Heap.lt_size e) z) (Nat.lt_irrefl _)
  have cellK : ∀ x c, X.env.cells.lookup x = some c → ∀ v, s.heap.IsCell c v → h'.IsCell c v := fun x c e v ⟨o, ho, hd⟩ => by
    have nch : c ∉ ch := fun z => (hch c z).2.2.1 x c e rfl
    by_cases hc : c ∈ X.fs
    · obtain ⟨sl, q⟩ := slot c o (I.cne x c e) hc nch ho (I.freeC x c e)
      exact ⟨_, q, hd⟩
    · exact ⟨o, keep c o (I.cne x c e) hc nch ho (I.freeC x c e), hd⟩
  refine ⟨I.ok, I.os, hg, ⟨fun b o e n hb hx => ?_, fun b o e n hb hx => ?_, fun b o e n hx => ?_, fun b o e hx => ?_, fun b xs e => tups b xs (I.base.tups b xs e), fun b o xs e => frzs b o xs (I.base.frzs b o xs e), fun b ps e => ?_⟩, ?_, fun x c e => ?_, ?_, fun x c e => ?_, fun p hp => ?_, hok, I.len⟩
  · exact keep b o (neL b o e) hb (neC b o e hx) (I.base.keep b o e n hb hx) (I.base.free b o e n hx)
  · obtain ⟨sl, e1⟩ := I.base.slot b o e n hb hx
    obtain ⟨sl', e2⟩ := slot b _ (neL b o e) hb (neC b o e hx) e1 (I.base.free b o e n hx)
    exact ⟨sl', e2⟩
  · obtain ⟨o', e1⟩ := I.base.there b o e hx
    exact free b o' (neC b o e hx) e1 (I.base.free b o e n hx)
  · obtain ⟨o', e1⟩ := I.base.there b o e hx
    exact there b o' (neC b o e hx) e1
  · obtain ⟨m1, e1⟩ := I.base.tbls b ps e
    obtain ⟨m2, e2⟩ := tbls b _ e1
    exact ⟨m1 ++ m2, by rw [e2, Array.append_assoc]⟩
  · obtain ⟨m, hn, hl⟩ := I.loc
    refine ⟨m, ns m hn, fun i x v e1 e2 e3 => ?_⟩
    obtain ⟨u, r, l⟩ := hl i x v e1 e2 e3
    refine ⟨u, r, ?_⟩
    rcases l with l | ⟨k, c, e, z⟩
    · exact .inl l
    · exact .inr ⟨k, c, e, cellK x c e _ z⟩
  · obtain ⟨v, z⟩ := I.cell x c e
    exact ⟨v, cellK x c e v z⟩
  · obtain ⟨m, ⟨o, _, _, ho, _⟩, _⟩ := I.loc
    exact free _ o (fun z => (hch _ z).2.1 rfl) ho I.free
  · obtain ⟨v, o, ho, hd⟩ := I.cell x c e
    exact free c o (fun z => (hch c z).2.2.1 x c e rfl) ho (I.freeC x c e)
  · obtain ⟨e, n, ne, nf, d⟩ := I.pin p hp
    have nch : p.1 ∉ ch := fun z => (hch p.1 z).2.2.2 p hp rfl
    exact ⟨keep p.1 p.2 ne nf nch e n, free p.1 p.2 nch e n, ne, nf, d⟩
/-- .. where the frame's own object is kept too -/
theorem Inv.un {t' : Nat} (I : Inv X pins σ H s) (u : Un X.fs [] H H' s.heap h') (hok : HOk X.prog X.w H' h') : Inv X pins σ H' { s with heap := h', toks := t' } := by
  obtain ⟨m, ⟨o, es, ep, ho, r⟩, _⟩ := id I.loc
  obtain ⟨sl, hL⟩ := u.any ho I.free (by simp)
  exact I.step (g' := s.gens) (d' := s.drawn) (ch := []) (fun _ z => nomatch z) (fun b o _ hb _ e n => u.keep b o e n hb (by simp)) (fun b o _ hb _ e n => u.slot b o e n hb (by simp)) (fun b o _ e n => u.free b o e n (by simp)) (fun b o _ e => u.there b o e (by simp)) u.tups u.frzs u.tbls (fun m' hm => by
    obtain ⟨o', es', ep', ho', r'⟩ := hm
    rw [ho] at ho'; cases ho'
    exact ⟨_, es', ep', hL, r'⟩) hok I.bare
/-- behind a call (or a comprehension's block): the slots of this frame may have changed too, the records at ch may have turned -/
theorem Inv.call {g' : Array GenState} {t' : Nat} {d' : Drawn} {ch : List Addr} (I : Inv X pins σ H s) (u : Un (frs X.stack) ch H H' s.heap h') (hok : HOk X.prog X.w H' h') (hg : AllBare g')
    (hch : ∀ b ∈ ch, (b ∈ X.ex ∨ X.s₀.heap.objs.size ≤ b) ∧ b ≠ X.env.locals ∧ (∀ x c, X.env.cells.lookup x = some c → c ≠ b) ∧ ∀ p ∈ X.pn ++ pins, p.1 ≠ b) :
    Inv X pins σ H' { s with heap := h', gens := g', drawn := d', toks := t' } := by
  obtain ⟨m, ⟨o, es, ep, ho, r⟩, _⟩ := id I.loc
  obtain ⟨sl, hL⟩ := u.any ho I.free fun z => (hch _ z).2.1 rfl
  exact I.step (ch := ch) hch (fun b o hL hb hc e n => u.keep b o e n (fun z => (List.mem_cons.mp (I.stkSub b z)).elim hL hb) hc) (fun b o _ _ hc e n => u.any e n hc) (fun b o hc e n => u.free b o e n hc) (fun b o hc e => u.there b o e hc) u.tups u.frzs u.tbls (fun m' hm => by
    obtain ⟨o', es', ep', ho', r'⟩ := hm
    rw [ho] at ho'; cases ho'
    exact ⟨_, es', ep', hL, r'⟩) hok hg
/-- an untracked record of ours (an iterator) has turned -/
theorem Inv.turned {t' : Nat} {it : Addr} (I : Inv X pins σ H s) (k : ∀ b o, b ≠ it → s.heap.get? b = some o → h'.get? b = some o) (hn : H it = none) (hL : it ≠ X.env.locals)
    (h1 : it ∈ X.ex ∨ X.s₀.heap.objs.size ≤ it) (h2 : ∀ x c, X.env.cells.lookup x = some c → c ≠ it) (h3 : ∀ p ∈ X.pn ++ pins, p.1 ≠ it) : Inv X pins σ H { s with heap := h', toks := t' } := by
  have nit : ∀ b u, H b = some u → b ≠ it := fun b u e z => by rw [z, hn] at e; cases e
  refine I.step (g' := s.gens) (d' := s.drawn) (ch := [it]) (fun b hb => ?_) (fun b o _ _ hc e _ => k b o (fun z => hc (by simp [z])) e) (fun b o _ _ hc e _ => ⟨o.slots, k b o (fun z => hc (by simp [z])) e⟩) (fun _ _ _ _ n => n)
    (fun b o hc e => ⟨o, k b o (fun z => hc (by simp [z])) e⟩) (fun _ _ e => e) (fun _ _ _ e => e) (fun b ps e => ⟨#[], by rw [e]; simp⟩) (fun m hm => ?_) (fun b u e => ?_) I.bare
  · have e : b = it := by simpa using hb
    subst e
    exact ⟨h1, hL, h2, h3⟩
  · obtain ⟨o, es, ep, ho, r⟩ := hm
    exact ⟨o, es, ep, k _ o (Ne.symm hL) ho, r⟩
  · refine (I.hok b u e).stay (fun c v hc q => k c v ?_ q) (fun _ q => q) fun _ _ q => q
    rcases hc with z | z
    · rw [z]; exact nit b u e
    · exact nit c _ z
theorem Inv.tok (I : Inv X pins σ H s) (t : Nat) : Inv X pins σ H { s with toks := t } := I.un (h' := s.heap) (t' := t) Un.refl I.hok
/-- all objects kept -/
theorem Inv.kept {t' : Nat} (I : Inv X pins σ H s) (k : ∀ b u, s.heap.get? b = some u → h'.get? b = some u) : Inv X pins σ H { s with heap := h', toks := t' } := I.un (Un.kept k) (I.hok.kept k)
/-- a new object laid and tracked -/
theorem Inv.laid {a : Addr} {o : HO} {t' : Nat} (I : Inv X pins σ H s) (k : ∀ b u, s.heap.get? b = some u → h'.get? b = some u) (hp : s.heap.objs.size ≤ a) (new : ObjOk X.prog X.w (upd H a o) h' a o) :
    Inv X pins σ (upd H a o) { s with heap := h', toks := t' } := I.un (Un.laid k hp (I.hok.fresh hp)) (I.hok.laid k hp new)
/-- an object written -/
theorem Inv.write {x e : Addr} {o : HO} {t' : Nat} (I : Inv X pins σ H s) (mu : Mut (H x)) (he : e = x ∨ H e = some (.own x)) (k : ∀ b u, b ≠ e → s.heap.get? b = some u → h'.get? b = some u) (heo : ∃ u, h'.get? e = some u)
    (new : ObjOk X.prog X.w (upd H x o) h' x o) : Inv X pins σ (upd H x o) { s with heap := h', toks := t' } := I.un (Un.write mu he k heo) (I.hok.write mu he k heo new)
/-- forgetting slots, pins -/
theorem Inv.weak {σ' : List (Option V)} (I : Inv X pins σ H s) (hl : σ'.length = σ.length) (w : ∀ (i : Nat) v, σ'[i]? = some (some v) → σ[i]? = some (some v)) : Inv X pins σ' H s :=
  ⟨I.ok, I.os, I.bare, I.base, let ⟨m, hn, hl'⟩ := I.loc; ⟨m, hn, fun i x v e1 e2 e3 => hl' i x v e1 (w i v e2) e3⟩, I.cell, I.free, I.freeC, I.pin, I.hok, hl.trans I.len⟩
theorem Inv.pins_of {pins' : List (Addr × Obj)} (I : Inv X pins σ H s) (h : ∀ p ∈ pins', s.heap.get? p.1 = some p.2 ∧ H p.1 = none ∧ p.1 ≠ X.env.locals ∧ p.1 ∉ X.fs ∧ ∀ v, p.2.data ≠ .cell v) : Inv X pins' σ H s :=
  ⟨I.ok, I.os, I.bare, I.base, I.loc, I.cell, I.free, I.freeC, fun p hp => (List.mem_append.mp hp).elim (fun z => I.pin p (List.mem_append_left _ z)) (h p), I.hok, I.len⟩

theorem nodup_ix {N : List Str} (hN : N.Nodup) {i j : Nat} {x : Str} (a : N[i]? = some x) (b : N[j]? = some x) : i = j := by
  obtain ⟨h1, e1⟩ := List.getElem?_eq_some_iff.mp a
  obtain ⟨h2, e2⟩ := List.getElem?_eq_some_iff.mp b
  exact (List.getElem_inj hN).mp (e1.trans e2.symm)

/-- a name is stored; what changed -/
theorem store_ok2 {M : Model} {A : Around} {E : Value → Shared → Prop} {i : Nat} {x : Str} {v : V} {u : Value} {Q : Unit → Shared → Prop} (I : Inv X pins σ H s) (hN : X.N.Nodup) (hi : X.N[i]? = some x) (hx : Loc X.env.scope x) (r : RelV v u)
    (h : ∀ s', Inv X pins (σ.set i (some v)) H s' → (∃ a, Heap.SameBut a s.heap s'.heap ∧ (a = X.env.locals ∨ X.env.cells.lookup x = some a)) → Q () s') (hf : X.fn x = true ∨ X.env.scope.names.lookup x = some .local := by first | exact .inl rfl | exact .inr rfl | assumption) : wpAny M A (storeName X.env x u) Q E s := by
  obtain ⟨m, hn, hl⟩ := id I.loc
  have hcls : (X.env.scope.kind == .class || (X.env.scope.kind == .module && X.env.locals != X.env.globals)) = false := by rw [I.ok.kind]; rfl
  have hiσ : i < σ.length := by rw [I.len]; exact (List.getElem?_eq_some_iff.mp hi).1
  have cne := I.cne
  have tracked : ∀ {a : Addr} {h' : Heap}, (∃ o, s.heap.get? a = some o ∧ H a = none) → Heap.SameBut a s.heap h' → HOk X.prog X.w H h' := fun {a h'} ha hs b ob e => by
    obtain ⟨_, _, hfree⟩ := ha
    refine (I.hok b ob e).stay (fun c w' hc q => (hs.2 c ?_).trans q) (fun _ q => q) fun _ _ q => q
    rintro rfl
    rcases hc with rfl | hc
    · rw [hfree] at e; cases e
    · rw [hfree] at hc; cases hc
  rcases hx with hk | hk
  · refine wpAny_storeName_local hk hn (fun h' hn' hs => ?_) hcls
    obtain ⟨oL, _, _, hoL, _⟩ := id hn
    refine h _ ⟨I.ok, I.os, I.bare, ⟨fun b o e n hb hx => ?_, fun b o e n hb hx => ?_, I.base.free, fun b o e hx => ?_, I.base.tups, I.base.frzs, I.base.tbls⟩, ⟨_, hn', fun j y v' e1 e2 e3 => ?_⟩, fun y c e => ?_, I.free, I.freeC, fun p hp => ?_, tracked ⟨oL, hoL, I.free⟩ hs, by simpa using I.len⟩ ⟨_, hs, .inl rfl⟩
    · exact (hs.2 b (Nat.ne_of_lt (Nat.lt_of_lt_of_le (Heap.lt_size e) I.ok.above))).trans (I.base.keep b o e n hb hx)
    · obtain ⟨sl, e1⟩ := I.base.slot b o e n hb hx
      exact ⟨sl, (hs.2 b (Nat.ne_of_lt (Nat.lt_of_lt_of_le (Heap.lt_size e) I.ok.above))).trans e1⟩
    · obtain ⟨o', e1⟩ := I.base.there b o e hx
      exact ⟨o', (hs.2 b (Nat.ne_of_lt (Nat.lt_of_lt_of_le (Heap.lt_size e) I.ok.above))).trans e1⟩
    · by_cases hj : j = i
      · subst hj
        rw [hi] at e1; cases e1
        rw [List.getElem?_set_self hiσ] at e2
        cases e2
        exact ⟨u, r, .inl ⟨hk, by simp⟩⟩
      · rw [List.getElem?_set_ne (Ne.symm hj)] at e2
        obtain ⟨u', r', q⟩ := hl j y v' e1 e2 e3
        refine ⟨u', r', ?_⟩
        rcases q with ⟨k, e⟩ | ⟨k, c, e, z⟩
        · refine .inl ⟨k, ?_⟩
          have : y ≠ x := fun e => hj (nodup_ix hN e1 (e ▸ hi))
          simp [this, e]
        · exact .inr ⟨k, c, e, z.sameBut hs (cne y c e)⟩
    · obtain ⟨w', z⟩ := I.cell y c e
      exact ⟨w', z.sameBut hs (cne y c e)⟩
    · obtain ⟨e, n, ne, nf, d⟩ := I.pin p hp
      exact ⟨(hs.2 p.1 ne).trans e, n, ne, nf, d⟩
  · have hfn : X.fn x = true := by
      rcases hf with z | z
      · exact z
      · rw [z] at hk; cases hk
    obtain ⟨c, hc⟩ := I.ok.has x (.inl hk)
    obtain ⟨w', z⟩ := I.cell x c hc
    refine wpAny_storeName_cell I.ok.kind hk hc z (fun h' hc' hs => ?_)
    obtain ⟨oc, hoc, hocd⟩ := id z
    refine h { s with heap := h' } ⟨I.ok, I.os, I.bare, ⟨fun b o e n hb hx => ?_, fun b o e n hb hx => ?_, I.base.free, fun b o e hx => ?_, I.base.tups, I.base.frzs, I.base.tbls⟩, ⟨m, hn.sameBut hs (Ne.symm (cne x c hc)), fun j y v' e1 e2 e3 => ?_⟩, fun y c' e => ?_, I.free, I.freeC, fun p hp => ?_, tracked ⟨oc, hoc, I.freeC x c hc⟩ hs, by simpa using I.len⟩ ⟨c, hs, .inr hc⟩
    · exact (hs.2 b (Nat.ne_of_lt (Nat.lt_of_lt_of_le (Heap.lt_size e) (I.ok.cab x c hfn hc)))).trans (I.base.keep b o e n hb hx)
    · obtain ⟨sl, e1⟩ := I.base.slot b o e n hb hx
      exact ⟨sl, (hs.2 b (Nat.ne_of_lt (Nat.lt_of_lt_of_le (Heap.lt_size e) (I.ok.cab x c hfn hc)))).trans e1⟩
    · obtain ⟨o', e1⟩ := I.base.there b o e hx
      exact ⟨o', (hs.2 b (Nat.ne_of_lt (Nat.lt_of_lt_of_le (Heap.lt_size e) (I.ok.cab x c hfn hc)))).trans e1⟩
    · by_cases hj : j = i
      · subst hj
        rw [hi] at e1; cases e1
        rw [List.getElem?_set_self hiσ] at e2
        cases e2
        exact ⟨u, r, .inr ⟨.inl hk, c, hc, hc'⟩⟩
      · rw [List.getElem?_set_ne (Ne.symm hj)] at e2
        obtain ⟨u', r', q⟩ := hl j y v' e1 e2 e3
        refine ⟨u', r', ?_⟩
        rcases q with q | ⟨k, c', e, z'⟩
        · exact .inl q
        · refine .inr ⟨k, c', e, z'.sameBut hs ?_⟩
          rintro rfl
          exact hj (nodup_ix hN e1 (I.ok.inj _ _ _ e hc ▸ hi))
    · by_cases hcc : c' = c
      · subst hcc; exact ⟨_, hc'⟩
      · obtain ⟨w2, z2⟩ := I.cell y c' e
        exact ⟨w2, z2.sameBut hs hcc⟩
    · obtain ⟨e, n, ne, nf, d⟩ := I.pin p hp
      refine ⟨(hs.2 p.1 ?_).trans e, n, ne, nf, d⟩
      intro q
      rw [q, hoc] at e
      have q' : oc = p.2 := Option.some.inj e
      exact d w' (by rw [← q']; exact hocd)
theorem store_ok {M : Model} {A : Around} {E : Value → Shared → Prop} {i : Nat} {x : Str} {v : V} {u : Value} {Q : Unit → Shared → Prop} (I : Inv X pins σ H s) (hN : X.N.Nodup) (hi : X.N[i]? = some x) (hx : Loc X.env.scope x) (r : RelV v u)
    (h : ∀ s', Inv X pins (σ.set i (some v)) H s' → Q () s') (hf : X.fn x = true ∨ X.env.scope.names.lookup x = some .local := by first | exact .inl rfl | exact .inr rfl | assumption) : wpAny M A (storeName X.env x u) Q E s :=
  store_ok2 I hN hi hx r (fun s' I' _ => h s' I') hf
/-- behind a call or a block, the state as it is -/
theorem Inv.call' {s' : Shared} {ch : List Addr} (I : Inv X pins σ H s) (ho : s'.os = s.os) (u : Un (frs X.stack) ch H H' s.heap s'.heap) (hok : HOk X.prog X.w H' s'.heap) (hg : AllBare s'.gens)
    (hch : ∀ b ∈ ch, (b ∈ X.ex ∨ X.s₀.heap.objs.size ≤ b) ∧ b ≠ X.env.locals ∧ (∀ x c, X.env.cells.lookup x = some c → c ≠ b) ∧ ∀ p ∈ X.pn ++ pins, p.1 ≠ b) : Inv X pins σ H' s' := by
  obtain ⟨h', g', d', t', o'⟩ := s'
  have e : o' = s.os := ho
  subst e
  exact I.call (g' := g') (t' := t') (d' := d') u hok hg hch
end

/-! ### the judgements -/
/-- an exception: its class, its own dict's address (where it has one), the abstract heap behind it -/
abbrev XK := Value → Option Addr → Hp → Prop
abbrev St := List (Option V)
abbrev VK := V → Hp → Prop
/-- an expression's reading; a test's; an argument list's -/
abbrev TE := St → Hp → VK → Prop
abbrev TT := St → Hp → (Bool → Hp → Prop) → Prop
abbrev TA := St → Hp → (List V → Hp → Prop) → Prop
/-- what is wanted behind a statement -/
structure Ends where
  nx : St → Hp → Prop
  rt : VK
  bk : St → Hp → Prop := fun _ _ => False
  ct : St → Hp → Prop := fun _ _ => False
abbrev TS := Ends → St → Hp → Prop

def EP (X : Cx) (pins : List (Addr × Obj)) (σ : St) (Q : VK) (u : Value) (s' : Shared) : Prop := ∃ v H', Inv X pins σ H' s' ∧ RelV v u ∧ Q v H'
def TP (X : Cx) (pins : List (Addr × Obj)) (σ : St) (Q : Bool → Hp → Prop) (b : Bool) (s' : Shared) : Prop := ∃ H', Inv X pins σ H' s' ∧ Q b H'
def AP (X : Cx) (pins : List (Addr × Obj)) (σ : St) (Q : List V → Hp → Prop) (us : List Value) (s' : Shared) : Prop := ∃ vs H', Inv X pins σ H' s' ∧ Vals vs us ∧ Q vs H'
def SP (X : Cx) (pins : List (Addr × Obj)) (D : Ends) (f : Flow) (s' : Shared) : Prop :=
  match f with
  | .next => ∃ σ' H', Inv X pins σ' H' s' ∧ D.nx σ' H'
  | .brk => ∃ σ' H', Inv X pins σ' H' s' ∧ D.bk σ' H'
  | .cont => ∃ σ' H', Inv X pins σ' H' s' ∧ D.ct σ' H'
  | .ret u => ∃ v σ' H', Inv X pins σ' H' s' ∧ RelV v u ∧ D.rt v H'

def PE (X : Cx) (e : Expr) (t : TE) : Prop :=
  ∀ (pins : List (Addr × Obj)) (s : Shared) (σ : St) (H : Hp) (Q : VK), Inv X pins σ H s → t σ H Q → wpAny (model X.prog X.w) X.A (eval e X.env) (EP X pins σ Q) X.xe s
def PT (X : Cx) (e : Expr) (t : TT) : Prop :=
  ∀ (pins : List (Addr × Obj)) (s : Shared) (σ : St) (H : Hp) (Q : Bool → Hp → Prop), Inv X pins σ H s → t σ H Q → wpAny (model X.prog X.w) X.A (isTrue e X.env (eval e X.env)) (TP X pins σ Q) X.xe s
/-- a test whatever its 'whole' is (and, or) -/
def PW (X : Cx) (e : Expr) (t : TT) : Prop :=
  ∀ (whole : Sem Value) (pins : List (Addr × Obj)) (s : Shared) (σ : St) (H : Hp) (Q : Bool → Hp → Prop), Inv X pins σ H s → t σ H Q → wpAny (model X.prog X.w) X.A (isTrue e X.env whole) (TP X pins σ Q) X.xe s
theorem PW.pt {X : Cx} {e : Expr} {t : TT} (h : PW X e t) : PT X e t := h _
/-- an argument list (no star), from the left -/
def PA (X : Cx) (es : List Expr) (t : TA) : Prop :=
  ∀ (pos : Pos) (pins : List (Addr × Obj)) (s : Shared) (σ : St) (H : Hp) (Q : List V → Hp → Prop), Inv X pins σ H s → t σ H Q → wpAny (model X.prog X.w) X.A (spliced (backTo pos (starEach es X.env))) (AP X pins σ Q) X.xe s
def PS (X : Cx) (st : Stmt) (t : TS) : Prop :=
  ∀ (pins : List (Addr × Obj)) (s : Shared) (σ : St) (H : Hp) (D : Ends), Inv X pins σ H s → t D σ H → wpAny (model X.prog X.w) X.A (exec st X.env) (SP X pins D) X.xe s
def PSs (X : Cx) (st : List Stmt) (t : TS) : Prop :=
  ∀ (pins : List (Addr × Obj)) (s : Shared) (σ : St) (H : Hp) (D : Ends), Inv X pins σ H s → t D σ H → wpAny (model X.prog X.w) X.A (execs st X.env) (SP X pins D) X.xe s
/-- weaken the end -/
theorem thn {α : Type} {t : Sem α} {Q Q' : α → Shared → Prop} {M : Model} {A : Around} {E : Value → Shared → Prop} {s : Shared} (h : wpAny M A t Q E s) (hQ : ∀ a s, Q a s → Q' a s) : wpAny M A t Q' E s := wpAny_mono h hQ fun _ _ x => x
end L2

namespace L2
open PySem PySem.Spec PyProof.Rows
section
variable {X : Cx}

/-- two expressions in a row -/
theorem bin {a b : Expr} {ta tb : TE} (ha : PE X a ta) (hb : PE X b tb) {pins : List (Addr × Obj)} {s : Shared} {σ : St} {H : Hp} {R : V → V → Hp → Prop} (I : Inv X pins σ H s) (h : ta σ H fun x H1 => tb σ H1 fun y H2 => R x y H2)
    {α : Type} {Q : α → Shared → Prop} {f : Value → Value → Sem α}
    (hf : ∀ v u s2 x y H2, Inv X pins σ H2 s2 → RelV x v → RelV y u → R x y H2 → wpAny (model X.prog X.w) X.A (f v u) Q X.xe s2) :
    wpAny (model X.prog X.w) X.A (eval a X.env) (fun v s₁ => wpAny (model X.prog X.w) X.A (eval b X.env) (fun u s₂ => wpAny (model X.prog X.w) X.A (f v u) Q X.xe s₂) X.xe s₁) X.xe s := by
  refine thn (ha pins s σ H _ I h) fun v s1 ⟨x, H1, I1, r1, q1⟩ => ?_
  refine thn (hb pins s1 σ H1 _ I1 q1) fun u s2 ⟨y, H2, I2, r2, q2⟩ => ?_
  exact hf v u s2 x y H2 I2 r1 r2 q2

/-! ### names and constants -/
def tVar (i : Nat) : TE := fun σ H Q => ∃ v, σ[i]? = some (some v) ∧ Q v H
def tC (v : V) : TE := fun _ H Q => Q v H
theorem pe_var {i : Nat} {x : Str} {pos : Pos} (hN : X.N[i]? = some x) (hv : Vis X.env.scope x) (hd : (x == ("__debug__" : Str)) = false := by decide) (hcd : (x == ("__classdict__" : Str)) = false := by decide) : PE X (.Name x pos) (tVar i) := by
  intro pins s σ H Q I h
  obtain ⟨v, e, h⟩ := h
  obtain ⟨m, hn, hl⟩ := I.loc
  obtain ⟨u, r, l⟩ := hl i x v hN e hv
  have fin : EP X pins σ Q u s := ⟨v, H, I, r, h⟩
  rcases l with ⟨hk, hm⟩ | ⟨hk, c, hc, hcell⟩
  · exact wpAny_Name (wpAny_loadName_local I.ok.kind hk hn hm fin) hd
  · rcases hk with hk | hk
    · exact wpAny_Name (wpAny_loadName_cell I.ok.kind hk hc hcell fin) hd
    · exact wpAny_Name (wpAny_loadName_free I.ok.kind hk hc hcell fin hcd) hd
theorem pe_int {i j pos} : PE X (.Constant (.int i) j pos) (tC (.int i)) := fun _ _ _ H _ I h => wpAny_Constant_int ⟨.int i, H, I.tok _, ⟨_, rfl⟩, h⟩
theorem pe_bl {b j pos} : PE X (.Constant (.bool b) j pos) (tC (.bl b)) := fun _ _ _ H _ I h => Constant_bool ⟨.bl b, H, I, rfl, h⟩
theorem pe_non {j pos} : PE X (.Constant .none j pos) (tC .non) := fun _ _ _ H _ I h => Constant_none ⟨.non, H, I, rfl, h⟩
theorem pe_str {x j pos} : PE X (.Constant (.str x) j pos) (tC (.str x)) := fun _ _ _ H _ I h => Calls.Constant_str ⟨.str x, H, I.tok _, ⟨_, rfl⟩, h⟩

/-- a global name of the def -/
def Gl (X : Cx) (x : Str) : Prop := X.env.kindOf x = some .globalImplicit
theorem ld_glob {E : Value → Shared → Prop} {pins : List (Addr × Obj)} {s : Shared} {σ : St} {H : Hp} {x : Str} {u : Value} {pos : Pos} {Q : Value → Shared → Prop} (I : Inv X pins σ H s) (hg : Gl X x) (hm : X.mg x = some u) (h : Q u s)
    (hd : (x == ("__debug__" : Str)) = false := by decide) : wpAny (model X.prog X.w) X.A (eval (.Name x pos) X.env) Q E s :=
  Calls.Name_function_global I.ok.kind hg (Calls.loadGlobal_global (by rw [I.ok.glob]; exact I.mod.glob.keeps I.bk) hm h) hd
theorem ld_blt {E : Value → Shared → Prop} {pins : List (Addr × Obj)} {s : Shared} {σ : St} {H : Hp} {x : Str} {u : Value} {pos : Pos} {Q : Value → Shared → Prop} (I : Inv X pins σ H s) (hg : Gl X x) (hm : X.mg x = none) (hv : bootBuiltins x = some u) (h : Q u s)
    (hn : x ≠ "__name__" := by decide) (hd : (x == ("__debug__" : Str)) = false := by decide) : wpAny (model X.prog X.w) X.A (eval (.Name x pos) X.env) Q E s := by
  obtain ⟨mb, h1, h2⟩ := I.mod.blt
  exact Calls.Name_function_global I.ok.kind hg (Calls.loadGlobal_builtin (by rw [I.ok.glob]; exact I.mod.glob.keeps I.bk) hm (by rw [I.ok.blt]; exact h1.keeps I.bk) ((h2 x hn).trans hv) h) hd
/-- a module's constant, a class, a function, as a value -/
theorem pe_glob {x : Str} {v : V} {u : Value} {pos : Pos} (hg : Gl X x) (hm : X.mg x = some u) (r : RelV v u) (hd : (x == ("__debug__" : Str)) = false := by decide) : PE X (.Name x pos) (tC v) :=
  fun _ _ _ H _ I h => ld_glob I hg hm ⟨v, H, I, r, h⟩ hd
theorem pe_bltn {x : Str} {v : V} {u : Value} {pos : Pos} (hg : Gl X x) (hm : X.mg x = none) (hv : bootBuiltins x = some u) (r : RelV v u) (hn : x ≠ "__name__" := by decide) (hd : (x == ("__debug__" : Str)) = false := by decide) : PE X (.Name x pos) (tC v) :=
  fun _ _ _ H _ I h => ld_blt I hg hm hv ⟨v, H, I, r, h⟩ hn hd

/-! ### arithmetic -/
variable {a b : Expr} {ta tb : TE} {pos : Pos}
/-! ### comparisons -/
def PC (X : Cx) (op : CmpOp) (a b : Expr) (t : TE) : Prop :=
  ∀ (pins : List (Addr × Obj)) (s : Shared) (σ : St) (H : Hp) (Q : VK), Inv X pins σ H s → t σ H Q →
    wpAny (model X.prog X.w) X.A (eval a X.env) (fun v s₁ => wpAny (model X.prog X.w) X.A (eval b X.env) (fun u s₂ => wpAny (model X.prog X.w) X.A (compareOp op v u) (EP X pins σ Q) X.xe s₂) X.xe s₁) X.xe s
theorem nobehind (b : Expr) {op : CmpOp} (h : op ≠ .In) (h2 : op ≠ .NotIn) : behindInMarks op b = false := by
  have e1 : (op == CmpOp.In) = false := by cases op <;> first | rfl | exact absurd rfl h
  have e2 : (op == CmpOp.NotIn) = false := by cases op <;> first | rfl | exact absurd rfl h2
  cases b <;> simp [behindInMarks, e1, e2]
/-- a comparison as a value, as a test -/
def tB (t : TE) : TT := fun σ H Q => t σ H fun x H1 => ∃ c, x = .bl c ∧ Q c H1
theorem pt_cmp {op : CmpOp} {t : TE} (h : PC X op a b t) (h1 : behindInMarks op b = false := by first | exact nobehind _ (by decide) (by decide) | rfl) : PT X (.Compare a [op] [b] pos) (tB t) := by
  intro pins s σ H Q I hw
  refine wpAny_isTrue_Compare1 (thn (h pins s σ H _ I hw) fun v s1 h1 => thn h1 fun u s2 h2 => thn h2 fun c s3 ⟨x, H1, I1, r1, q1⟩ => ?_) h1
  obtain ⟨d, rfl, q⟩ := q1
  cases r1
  exact wpAny_truthy_bool ⟨H1, I1, q⟩
/-- an expression whose value is a bool, as a test -/
theorem pt_val {e : Expr} {t : TE} (h : PE X e t) (he : ∀ whole, isTrue e X.env whole = (do let v ← whole; standAt e.pos; holding [v] (truthy v)) := by intro _; rfl) : PT X e (tB t) := by
  intro pins s σ H Q I hw
  refine isTrue_plain (thn (h pins s σ H _ I hw) fun v s1 ⟨x, H1, I1, r1, q1⟩ => ?_) (he _)
  obtain ⟨d, rfl, q⟩ := q1
  cases r1
  exact wpAny_truthy_bool ⟨H1, I1, q⟩

/-! ### and, or, not -/
variable {tA tB' : TT} {rest : List Expr}
def tOr (t u : TT) : TT := fun σ H Q => t σ H fun c H1 => if c = true then Q true H1 else u σ H1 Q
def tNot (t : TT) : TT := fun σ H Q => t σ H fun c H1 => Q (!c) H1
theorem pw_or1 (ha : PT X a tA) : PW X (.BoolOp .Or [a] pos) tA := by
  intro wh pins s σ H Q I h
  refine isTrue_or (thn (ha pins s σ H Q I h) fun c s1 e => ?_)
  cases c with
  | false => exact isTrue_or_nil e
  | true => exact e
theorem pw_or (ha : PT X a tA) (hb : PW X (.BoolOp .Or (b :: rest) pos) tB') : PW X (.BoolOp .Or (a :: b :: rest) pos) (tOr tA tB') := by
  intro wh pins s σ H Q I h
  refine isTrue_or (thn (ha pins s σ H _ I h) fun c s1 ⟨H1, I1, q1⟩ => ?_)
  cases c with
  | true => exact ⟨H1, I1, q1⟩
  | false => exact hb wh pins s1 σ H1 Q I1 q1
theorem pt_not (ha : PT X a tA) : PT X (.UnaryOp .Not a pos) (tNot tA) := by
  intro pins s σ H Q I h
  exact isTrue_not (ha pins s σ H (fun c H1 => Q (!c) H1) I h)
/-- .. as values (bools) -/
def tAndV (ta tb : TE) : TE := fun σ H Q => ta σ H fun x H1 => ∃ c, x = .bl c ∧ if c = true then tb σ H1 Q else Q (.bl false) H1
def tNotV (ta : TE) : TE := fun σ H Q => ta σ H fun x H1 => ∃ c, x = .bl c ∧ Q (.bl (!c)) H1
theorem pe_one {op} {t : TE} (h : PE X a t) : PE X (.BoolOp op [a] pos) t := fun pins s σ H Q I hw => BoolOp_one (h pins s σ H Q I hw)
theorem pe_and (ha : PE X a ta) (hb : PE X (.BoolOp .And (b :: rest) pos) tb) : PE X (.BoolOp .And (a :: b :: rest) pos) (tAndV ta tb) := by
  intro pins s σ H Q I h
  refine BoolOp_and (thn (ha pins s σ H _ I h) fun v s1 ⟨x, H1, I1, r1, q1⟩ => ?_)
  obtain ⟨c, rfl, q1⟩ := q1
  cases r1
  refine wpAny_truthy_bool ?_
  cases c with
  | true => exact hb pins s1 σ H1 Q I1 q1
  | false => exact ⟨.bl false, H1, I1, rfl, q1⟩
theorem pe_not (ha : PE X a ta) : PE X (.UnaryOp .Not a pos) (tNotV ta) := by
  intro pins s σ H Q I h
  refine UnaryOp_ (thn (ha pins s σ H _ I h) fun v s1 ⟨x, H1, I1, r1, q1⟩ => ?_)
  obtain ⟨c, rfl, q1⟩ := q1
  cases r1
  exact not_of (wpAny_truthy_bool ⟨.bl (!c), H1, I1, rfl, q1⟩)
end
end L2

namespace L2
open PySem PySem.Spec PyProof.Rows

/-! ### a list, a tuple that is read: tracked, frozen, or an object of the module -/
def SqL (K : PySem.W.Frag) (H : Hp) (a : Addr) (xs : List V) : Prop :=
  Rd H a (.lst xs) ∨
    ∃ (o : Obj) (its : Array Value) (n : Nat), K.lookup a = some o ∧ o.cls = .type "list" ∧ o.dict = none ∧ o.data = .seq its n ∧ its.size ≤ sizeLine ∧ Vals xs its.toList
def SqT (K : PySem.W.Frag) (H : Hp) (a : Addr) (xs : List V) : Prop :=
  Rd H a (.tup xs) ∨
    ∃ (o : Obj) (its : Array Value) (n : Nat), K.lookup a = some o ∧ o.cls = .type "tuple" ∧ o.data = .seq its n ∧ its.size ≤ sizeLine ∧ Vals xs its.toList
def absV : Value → Option V
  | .none => some .non
  | .bool b => some (.bl b)
  | .int i _ => some (.int i)
  | .str x _ => some (.str x)
  | .bytes b _ => some (.byt b)
  | .float b _ => some (.flt b)
  | .ref a => some (.ref a)
  | .type n => some (.ty n)
  | _ => none
theorem RelV.abs {x : V} {u : Value} (r : RelV x u) : absV u = some x := by
  cases x with
  | non => cases r; rfl
  | bl _ => cases r; rfl
  | int _ => obtain ⟨t, rfl⟩ := r; rfl
  | str _ => obtain ⟨t, rfl⟩ := r; rfl
  | byt _ => obtain ⟨t, rfl⟩ := r; rfl
  | flt _ => obtain ⟨t, rfl⟩ := r; rfl
  | ref _ => cases r; rfl
  | ty _ => cases r; rfl
theorem RelV.inj {x y : V} {u : Value} (r : RelV x u) (q : RelV y u) : x = y := Option.some.inj (r.abs.symm.trans q.abs)
theorem Vals.inj : ∀ {xs ys : List V} {us : List Value}, Vals xs us → Vals ys us → xs = ys
  | _, _, _, .nil, .nil => rfl
  | _, _, _, .cons r t, .cons r' t' => by rw [r.inj r', Vals.inj t t']
section
variable {X : Cx} {pins : List (Addr × Obj)} {σ : St} {H : Hp} {s : Shared} {a : Addr} {xs ys : List V}
theorem SqL.of {K : PySem.W.Frag} (h : H a = some (.lst xs)) : SqL K H a xs := .inl (.inl h)
theorem SqT.of {K : PySem.W.Frag} (h : H a = some (.tup xs)) : SqT K H a xs := .inl (.inl h)
theorem Inv.list (I : Inv X pins σ H s) (h : SqL X.K H a xs) : ∃ its : List Value, Vals xs its ∧ PlainL s.heap a its.toArray ∧ xs.length ≤ sizeLine := by
  rcases h with h | ⟨o, its, n, hk, hc, hd, hs, hz, r⟩
  · obtain ⟨z, its, n, r, e⟩ := h.ok I.hok
    exact ⟨its, r, ⟨_, n, e, rfl, rfl, rfl⟩, z⟩
  · refine ⟨its.toList, r, ⟨o, n, I.kIn a o hk, hc, hd, by simpa using hs⟩, ?_⟩
    have e := r.length
    simp only [Array.length_toList] at e
    omega
theorem Inv.tuple (I : Inv X pins σ H s) (h : SqT X.K H a xs) : ∃ its : List Value, Vals xs its ∧ IsTup s.heap a its.toArray ∧ xs.length ≤ sizeLine := by
  rcases h with h | ⟨o, its, n, hk, hc, hs, hz, r⟩
  · obtain ⟨z, its, r, p⟩ := h.ok I.hok
    exact ⟨its, r, p, z⟩
  · refine ⟨its.toList, r, ⟨o, I.kIn a o hk, hc, n, by simpa using hs⟩, ?_⟩
    have e := r.length
    simp only [Array.length_toList] at e
    omega
theorem Inv.list_inj (I : Inv X pins σ H s) (h : SqL X.K H a xs) (h' : SqL X.K H a ys) : xs = ys := by
  obtain ⟨its, r, ⟨o, n, e, _, _, d⟩, _⟩ := I.list h
  obtain ⟨its', r', ⟨o', n', e', _, _, d'⟩, _⟩ := I.list h'
  rw [e] at e'; cases e'
  rw [d] at d'
  injection d' with d1 _
  have : its = its' := by simpa using congrArg Array.toList d1
  subst this
  exact r.inj r'
end

/-! ### another wish about exceptions -/
abbrev Cx.wish (X : Cx) (E : Value → Shared → Prop) : Cx := { X with xe := E }
/-- no exception leaves -/
abbrev Cx.nox (X : Cx) : Cx := X.wish fun _ _ => False
theorem Cx.Ok.wish {X : Cx} (ok : X.Ok) (E : Value → Shared → Prop) : (X.wish E).Ok :=
  ⟨ok.mod, ok.kind, ok.glob, ok.blt, ok.above, ok.inj, ok.has, ok.cab, ok.hd, ok.frames, ok.stk, ok.exf, ok.bs, ok.bsz, ok.noex, ok.exfs, ok.funs, ok.frf⟩
theorem Cx.Ok.unwish {X : Cx} {E : Value → Shared → Prop} (ok : (X.wish E).Ok) : X.Ok :=
  ⟨ok.mod, ok.kind, ok.glob, ok.blt, ok.above, ok.inj, ok.has, ok.cab, ok.hd, ok.frames, ok.stk, ok.exf, ok.bs, ok.bsz, ok.noex, ok.exfs, ok.funs, ok.frf⟩
section
variable {X : Cx} {pins : List (Addr × Obj)} {σ : St} {H : Hp} {s : Shared} {E : Value → Shared → Prop}
theorem Inv.wish (I : Inv X pins σ H s) (E : Value → Shared → Prop) : Inv (X.wish E) pins σ H s := ⟨I.ok.wish E, I.os, I.bare, I.base, I.loc, I.cell, I.free, I.freeC, I.pin, I.hok, I.len⟩
theorem Inv.unwish (I : Inv (X.wish E) pins σ H s) : Inv X pins σ H s := ⟨I.ok.unwish, I.os, I.bare, I.base, I.loc, I.cell, I.free, I.freeC, I.pin, I.hok, I.len⟩
theorem SP.unwish {D : Ends} {f : Flow} {s' : Shared} (h : SP (X.wish E) pins D f s') : SP X pins D f s' := by
  cases f with
  | next => obtain ⟨σ', H', I, q⟩ := h; exact ⟨σ', H', I.unwish, q⟩
  | brk => obtain ⟨σ', H', I, q⟩ := h; exact ⟨σ', H', I.unwish, q⟩
  | cont => obtain ⟨σ', H', I, q⟩ := h; exact ⟨σ', H', I.unwish, q⟩
  | ret u => obtain ⟨v, σ', H', I, r, q⟩ := h; exact ⟨v, σ', H', I.unwish, r, q⟩
theorem PE.nox {e : Expr} {t : TE} (h : PE X.nox e t) : PE X e t := fun pins s σ H Q I hw =>
  wpAny_mono (h pins s σ H Q (I.wish _) hw) (fun _ _ ⟨v, H', I', r, q⟩ => ⟨v, H', I'.unwish, r, q⟩) fun _ _ z => False.elim z
theorem PT.nox {e : Expr} {t : TT} (h : PT X.nox e t) : PT X e t := fun pins s σ H Q I hw =>
  wpAny_mono (h pins s σ H Q (I.wish _) hw) (fun _ _ ⟨H', I', q⟩ => ⟨H', I'.unwish, q⟩) fun _ _ z => False.elim z
theorem PSs.nox {st : List Stmt} {t : TS} (h : PSs X.nox st t) : PSs X st t := fun pins s σ H D I hw =>
  wpAny_mono (h pins s σ H D (I.wish _) hw) (fun _ _ q => q.unwish) fun _ _ z => False.elim z
end

/-! ### blocks and small statements -/
section
variable {X : Cx} {st : Stmt} {rest : List Stmt} {t u : TS} {e : Expr} {te : TE} {pos : Pos}
def tNext : TS := fun D σ H => D.nx σ H
def tSeq (t u : TS) : TS := fun D σ H => t { D with nx := u D } σ H
theorem pss_nil : PSs X [] tNext := fun _ _ σ H _ I h => wpAny_execs_nil ⟨σ, H, I, h⟩
theorem pss_cons (h1 : PS X st t) (h2 : PSs X rest u) : PSs X (st :: rest) (tSeq t u) := by
  intro pins s σ H D I h
  refine wpAny_execs_cons (thn (h1 pins s σ H { D with nx := u D } I h) fun f s1 q => ?_)
  cases f with
  | next =>
    obtain ⟨σ', H', I', q⟩ := q
    exact h2 pins s1 σ' H' D I' q
  | ret v => exact q
  | brk => exact q
  | cont => exact q
theorem pss_one (h1 : PS X st t) : PSs X [st] t := by
  intro pins s σ H D I h
  refine wpAny_execs_cons (thn (h1 pins s σ H D I h) fun f s1 q => ?_)
  cases f with
  | next => exact wpAny_execs_nil q
  | ret v => exact q
  | brk => exact q
  | cont => exact q
/-- in a def's body nothing is shown -/
theorem Inv.quiet {pins : List (Addr × Obj)} {σ : St} {H : Hp} {s : Shared} (I : Inv X pins σ H s) : interactive X.env = false := by simp [interactive, I.ok.kind]
/-- an expression whose value is dropped -/
def tDrop (te : TE) : TS := fun D σ H => te σ H fun _ H1 => D.nx σ H1
theorem ps_expr (he : PE X e te) (hs : swapsWith e none pos.line X.env = pure false := by rfl) : PS X (.Expr e pos) (tDrop te) := by
  intro pins s σ H D I h
  exact wpAny_Expr_any (thn (he pins s σ H _ I h) fun v s1 ⟨x, H1, I1, r1, q1⟩ => ⟨σ, H1, I1, q1⟩) I.quiet hs
def tRet (te : TE) : TS := fun D σ H => te σ H D.rt
theorem ps_ret (he : PE X e te) : PS X (.Return (some e) pos) (tRet te) := by
  intro pins s σ H D I h
  exact wpAny_Return_some (thn (he pins s σ H _ I h) fun v s1 ⟨x, H1, I1, r1, q1⟩ => ⟨x, σ, H1, I1, r1, q1⟩)
def tIfS (c : TT) (t u : TS) : TS := fun D σ H => c σ H fun b H1 => if b = true then t D σ H1 else u D σ H1
theorem ps_if {c : Expr} {a b : List Stmt} {tc : TT} (hc : PT X c tc) (ha : PSs X a t) (hb : PSs X b u) : PS X (.If c a b pos) (tIfS tc t u) := by
  intro pins s σ H D I h
  refine wpAny_If (thn (hc pins s σ H _ I h) fun d s1 ⟨H1, I1, q1⟩ => ?_)
  cases d with
  | true => exact ha pins s1 σ H1 D I1 q1
  | false => exact hb pins s1 σ H1 D I1 q1
end

/-! ### targets -/
abbrev TG := V → St → Hp → (St → Hp → Prop) → Prop
abbrev TGs := List V → St → Hp → (St → Hp → Prop) → Prop
def PG (X : Cx) (target : Expr) (t : TG) : Prop :=
  ∀ (pins : List (Addr × Obj)) (s : Shared) (σ : St) (H : Hp) (v : V) (u : Value) (Q : St → Hp → Prop), Inv X pins σ H s → RelV v u → t v σ H Q →
    wpAny (model X.prog X.w) X.A (assign target X.env u) (fun _ s' => ∃ σ' H', Inv X pins σ' H' s' ∧ Q σ' H') X.xe s
/-- several targets, one after another -/
def PGs (X : Cx) (ts : List Expr) (t : TGs) : Prop :=
  ∀ (pins : List (Addr × Obj)) (s : Shared) (σ : St) (H : Hp) (vs : List V) (us : List Value) (Q : St → Hp → Prop), Inv X pins σ H s → Vals vs us → t vs σ H Q →
    wpAny (model X.prog X.w) X.A (assignInOrder ((assignEach ts X.env).map (·.2)) us) (fun _ s' => ∃ σ' H', Inv X pins σ' H' s' ∧ Q σ' H') X.xe s
/-- o[i] = v, by values -/
abbrev TSet := V → V → V → Hp → (Hp → Prop) → Prop
def PSet (X : Cx) (t : TSet) : Prop :=
  ∀ (pins : List (Addr × Obj)) (s : Shared) (σ : St) (H : Hp) (o i v : V) (ov iv u : Value) (Q : Hp → Prop), Inv X pins σ H s → RelV o ov → RelV i iv → RelV v u → t o i v H Q →
    wpAny (model X.prog X.w) X.A (setItem ov iv u) (fun _ s' => ∃ H', Inv X pins σ H' s' ∧ Q H') X.xe s
section
variable {X : Cx} {pos : Pos}
def gName (i : Nat) : TG := fun v σ H Q => Q (σ.set i (some v)) H
theorem pg_name {i : Nat} {x : Str} (hN : X.N.Nodup) (hi : X.N[i]? = some x) (hx : Loc X.env.scope x) (hf : X.fn x = true ∨ X.env.scope.names.lookup x = some .local := by first | exact .inl rfl | exact .inr rfl | assumption) : PG X (.Name x pos) (gName i) := by
  intro pins s σ H v u Q I r h
  exact wpAny_assign_Name (store_ok I hN hi hx r (fun s' I' => ⟨_, H, I', h⟩) hf)
def gNil : TGs := fun vs σ H Q => vs = [] ∧ Q σ H
def gCons (t : TG) (u : TGs) : TGs := fun vs σ H Q => ∃ v r, vs = v :: r ∧ t v σ H fun σ' H' => u r σ' H' Q
theorem pgs_nil : PGs X [] gNil := by
  intro pins s σ H vs us Q I r h
  obtain ⟨e, h⟩ := h
  subst e
  cases r
  exact assignInOrder_nil ⟨σ, H, I, h⟩
theorem pgs_cons {e : Expr} {es : List Expr} {t : TG} {u : TGs} (h1 : PG X e t) (h2 : PGs X es u)
    (hs : (assignEach (e :: es) X.env).map (·.2) = assign e X.env :: (assignEach es X.env).map (·.2) := by rfl) : PGs X (e :: es) (gCons t u) := by
  intro pins s σ H vs us Q I r h
  obtain ⟨v, vr, e1, h⟩ := h
  subst e1
  cases r with
  | cons r rr =>
    rw [hs]
    refine assignInOrder_cons (thn (h1 pins s σ H _ _ _ I r h) fun _ s1 ⟨σ1, H1, I1, q1⟩ => ?_)
    exact h2 pins s1 σ1 H1 _ _ Q I1 rr q1
/-- (a, b, ..) = a tuple of that length -/
def gTup (K : PySem.W.Frag) (n : Nat) (t : TGs) : TG := fun v σ H Q => ∃ a xs, v = .ref a ∧ SqT K H a xs ∧ xs.length = n ∧ t xs σ H Q
theorem pg_tup {es : List Expr} {k : Nat} {t : TGs} {n : Nat} (hc : X.calm = true) (h : PGs X es t)
    (hn : (assignEach es X.env).length = n := by rfl) (hst : (assignEach es X.env).findIdx? (·.1) = none := by rfl) : PG X (.Tuple es k pos) (gTup X.K n t) := by
  intro pins s σ H v u Q I r hw
  obtain ⟨a, xs, e1, hq, hl, hw⟩ := hw
  subst e1
  cases r
  obtain ⟨its, rv, ht, hz⟩ := I.tuple hq
  refine assign_Tuple_tuple (I.ok.hd hc) ht (by simp [hn, ← hl, rv.length]) hst fun h' hx => ?_
  have I1 : Inv X pins σ H { s with heap := h' } := I.kept (t' := s.toks) fun b o e => hx b o (Nat.ne_of_lt (Heap.lt_size e)) e
  exact h pins _ σ H xs _ Q I1 (by simpa using rv) hw
/-- o[i] = .. -/
def gSub (to ti : TE) (t : TSet) : TG := fun v σ H Q => to σ H fun o H1 => ti σ H1 fun i H2 => t o i v H2 fun H3 => Q σ H3
theorem pg_sub {o i : Expr} {to ti : TE} {t : TSet} (ho : PE X o to) (hi : PE X i ti) (hs : PSet X t)
    (ha : ∀ v, assign (.Subscript o i pos) X.env v = (do
      let ov ← holding [v] (eval o X.env)
      let iv ← holding [v, ov] (eval i X.env)
      standAt pos
      holding [v, ov, iv] (setItem ov iv v)
      release [v, ov, iv] []) := by intro _; rfl) : PG X (.Subscript o i pos) (gSub to ti t) := by
  intro pins s σ H v u Q I r h
  rw [ha]
  refine wpAny_bind (wpAny_holding (thn (ho pins s σ H _ I h) fun ov s1 ⟨x, H1, I1, r1, q1⟩ => ?_))
  refine wpAny_bind (wpAny_holding (thn (hi pins s1 σ H1 _ I1 q1) fun iv s2 ⟨y, H2, I2, r2, q2⟩ => ?_))
  refine wpAny_bind (wpAny_standAt (wpAny_bind (wpAny_holding (thn (hs pins s2 σ H2 x y v ov iv u _ I2 r1 r2 r q2) fun _ s3 ⟨H3, I3, q3⟩ => ?_))))
  exact wpAny_release ⟨σ, H3, I3, q3⟩
/-- target = value -/
def tAsg (te : TE) (g : TG) : TS := fun D σ H => te σ H fun x H1 => g x σ H1 D.nx
theorem ps_asg {tg e : Expr} {te : TE} {g : TG} (he : PE X e te) (hg : PG X tg g) (hs : swapsWithSole [tg] e pos.line X.env = pure false := by rfl) (hw : swappedStores [tg] e X.env = pure none := by rfl)
    (h1 : (assignEach [tg] X.env).map (·.2) = [assign tg X.env] := by rfl) : PS X (.Assign [tg] e pos) (tAsg te g) := by
  intro pins s σ H D I h
  refine wpAny_Assign_stores (thn (he pins s σ H _ I h) fun v s1 ⟨x, H1, I1, r1, q1⟩ => ?_) hs hw
  rw [h1]
  exact thn (hg pins s1 σ H1 x v _ I1 r1 q1) fun _ s2 q => q
/-- name = value -/
theorem ps_set {i : Nat} {x : Str} {e : Expr} {te : TE} {pos' : Pos} (hN : X.N.Nodup) (hi : X.N[i]? = some x) (hx : Loc X.env.scope x) (he : PE X e te) (hs : swapsWith e (some (.Name x pos')) pos.line X.env = pure false := by rfl) (hf : X.fn x = true ∨ X.env.scope.names.lookup x = some .local := by first | exact .inl rfl | exact .inr rfl | assumption) :
    PS X (.Assign [.Name x pos'] e pos) (tAsg te (gName i)) := by
  intro pins s σ H D I h
  refine wpAny_Assign_Name (thn (he pins s σ H _ I h) fun v s1 ⟨y, H1, I1, r1, q1⟩ => ?_) hs
  exact store_ok I1 hN hi hx r1 (fun s2 I2 => ⟨_, H1, I2, q1⟩) hf
end

/-! ### while -/
section
variable {X : Cx} {pos : Pos}
end

/-! ### what a loop or a comprehension walks -/
/-- at turn i: it yields x (the heap may grow), or it stops -/
structure It where
  go : Nat → Hp → Prop
  yld : Nat → Hp → V → Hp → Prop
  stop : Nat → Hp → Prop
/-- the iterator's own objects may turn: they are not the frame's, not pinned, younger than the entry (or a comprehension's own) -/
def FpOk (X : Cx) (pins : List (Addr × Obj)) (H : Hp) (b : Addr) : Prop :=
  H b = none ∧ b ≠ X.env.locals ∧ b ∉ X.fs ∧ (b ∈ X.ex ∨ X.s₀.heap.objs.size ≤ b) ∧ (∀ x c, X.env.cells.lookup x = some c → c ≠ b) ∧ ∀ p ∈ X.pn ++ pins, p.1 ≠ b
theorem Inv.fpOk {X : Cx} {pins : List (Addr × Obj)} {σ : St} {H H' : Hp} {s : Shared} {b : Addr} (I : Inv X pins σ H s) (hb : s.heap.objs.size ≤ b) (hn : H' b = none) : FpOk X pins H' b := by
  refine ⟨hn, Nat.ne_of_gt (Nat.lt_of_lt_of_le I.lt hb), I.nofs hb, .inr (Nat.le_trans I.sz hb), fun x c e z => ?_, fun p hp z => ?_⟩
  · obtain ⟨v, q⟩ := I.cell x c e
    exact absurd (Nat.lt_of_lt_of_le q.lt (by rw [z]; exact hb)) (Nat.lt_irrefl _)
  · exact absurd (Nat.lt_of_lt_of_le (Heap.lt_size (I.pin p hp).1) (by rw [z]; exact hb)) (Nat.lt_irrefl _)
structure Turn (P : Program) (w : World) (K : PySem.W.Frag) (tg : Expr) (J : It) (fp : List Addr) (it : Addr) (tn : Nat → Heap → Prop) : Prop where
  mem : it ∈ fp
  obj : ∀ i h, tn i h → ∀ b ∈ fp, ∃ o, h.get? b = some o ∧ ∀ v, o.data ≠ .cell v
  keep : ∀ i h h', tn i h → (∀ b ∈ fp, ∀ o, h.get? b = some o → h'.get? b = some o) → tn i h'
  item : ∀ (X : Cx), X.prog = P → X.w = w → X.K = K → X.calm = true → ∀ (i : Nat) (pins : List (Addr × Obj)) (s : Shared) (σ : St) (H : Hp) (E : Value → Shared → Prop), Inv X pins σ H s → (∀ b ∈ fp, FpOk X pins H b) → tn i s.heap → J.go i H →
    wpAny (model P w) X.A (pyNext (.ref it)) (fun r s1 => ∃ u, r = some u ∧
      wpAny (model P w) X.A (letOwnedTupleGo tg (.ref it) u) (fun _ s2 => ∃ x H', Inv X pins σ H' s2 ∧ RelV x u ∧ J.yld i H x H' ∧ tn (i + 1) s2.heap ∧ ∀ b ∈ fp, H' b = none) E s1) E s
  done : ∀ (X : Cx), X.prog = P → X.w = w → X.K = K → X.calm = true → ∀ (i : Nat) (pins : List (Addr × Obj)) (s : Shared) (σ : St) (H : Hp) (E : Value → Shared → Prop), Inv X pins σ H s → (∀ b ∈ fp, FpOk X pins H b) → tn i s.heap → J.stop i H →
    wpAny (model P w) X.A (pyNext (.ref it)) (fun r s1 => r = none ∧ Inv X pins σ H s1) E s
  self : ∀ (A : Around) (i : Nat) (s : Shared) (Q : Value → Shared → Prop) (E : Value → Shared → Prop), tn i s.heap → Q (.ref it) s → wpAny (model P w) A (pyIter (.ref it)) Q E s
abbrev TI := St → Hp → (It → Hp → Prop) → Prop
/-- an iterator has come -/
def PIE (X : Cx) (pins : List (Addr × Obj)) (σ : St) (tg : Expr) (R : It → Hp → Prop) (itv : Value) (s2 : Shared) : Prop :=
  ∃ (it : Addr) (fp : List Addr) (tn : Nat → Heap → Prop) (J : It) (H' : Hp), itv = .ref it ∧ Inv X pins σ H' s2 ∧ Turn X.prog X.w X.K tg J fp it tn ∧ tn 0 s2.heap ∧ (∀ b ∈ fp, FpOk X pins H' b) ∧ R J H'
def PI (X : Cx) (tg iter : Expr) (wi : TI) : Prop :=
  ∀ (pins : List (Addr × Obj)) (s : Shared) (σ : St) (H : Hp) (R : It → Hp → Prop), Inv X pins σ H s → wi σ H R →
    wpAny (model X.prog X.w) X.A (eval iter X.env) (fun v s1 => wpAny (model X.prog X.w) X.A (pyIter v) (PIE X pins σ tg R) X.xe s1) X.xe s

/-- the step ahead of the store is nothing for an iterator that keeps no tuple -/
theorem go_of {M : Model} {A : Around} {E : Value → Shared → Prop} {s : Shared} {tg : Expr} {it : Addr} {u : Value} {o : Obj} {n : String} {vs : Array Value} {Q : Unit → Shared → Prop} (ho : s.heap.get? it = some o) (hc : o.cls = .type n) (hd : o.data = .fields vs)
    (hn : ["enumerate", "zip", "dict_itemiterator", "dict_reverseitemiterator", "odict_iterator", "itertools.zip_longest", "itertools.pairwise"].contains n = false) (hQ : Q () s) : wpAny M A (letOwnedTupleGo tg (.ref it) u) Q E s := by
  unfold letOwnedTupleGo
  cases tg <;> first
    | exact wpAny_pure hQ
    | (cases u <;> first
        | exact wpAny_pure hQ
        | (refine wpAny_bind (wpAny_load ho ?_)
           rw [hc, hd]
           show wpAny M A (if (["enumerate", "zip", "dict_itemiterator", "dict_reverseitemiterator", "odict_iterator", "itertools.zip_longest", "itertools.pairwise"].contains n && vs[0]? == some (rawInt _)) = true then _ else _) Q E s
           rw [if_neg (by intro h; rw [hn, Bool.false_and] at h; cases h)]
           exact wpAny_pure hQ))

/-- the list at a, as it stands at each turn (a loop may append to it) -/
def Itl (K : PySem.W.Frag) (a : Addr) : It :=
  ⟨fun i H => ∃ xs x, SqL K H a xs ∧ xs[i]? = some x, fun i H x H' => H' = H ∧ ∀ xs, SqL K H a xs → xs[i]? = some x, fun i H => ∃ xs, SqL K H a xs ∧ xs.length ≤ i⟩
/-- lo, lo + 1, .. (n of them) -/
def Itr (lo : Int) (n : Nat) : It := ⟨fun i _ => i < n, fun i H x H' => H' = H ∧ x = .int (lo + i), fun i _ => n ≤ i⟩
theorem turn_list {P : Program} {w : World} {K : PySem.W.Frag} {tg : Expr} (a it : Addr) : Turn P w K tg (Itl K a) [it] it (fun i h => h.IsListIter it a i) where
  mem := by simp
  obj := fun i h st b hb => by
    have e : b = it := by simpa using hb
    subst e
    obtain ⟨o, e, c, d⟩ := st
    exact ⟨o, e, fun v z => by rw [d] at z; cases z⟩
  keep := fun i h h' st k => st.at fun o e => k it (by simp) o e
  item := by
    intro X hP hw hK hc i pins s σ H E I hf st hg
    subst hP hw hK
    obtain ⟨xs, x, hq, hx⟩ := hg
    obtain ⟨its, rv, p, hz⟩ := I.list hq
    obtain ⟨u, hu, ru⟩ := rv.get hx
    obtain ⟨f0, f1, f2, f3, f4, f5⟩ := hf it (by simp)
    refine wpAny_pyNext_list_item st p.isList (x := u) (by simpa using hu) fun h' st' sb => ?_
    have I1 : Inv X pins σ H { s with heap := h' } := I.turned (t' := s.toks) (fun b o hb e => (sb.2 b hb).trans e) f0 f1 f3 f4 f5
    obtain ⟨o, e, c, d⟩ := id st'
    exact ⟨u, rfl, go_of (s := { s with heap := h' }) e c d (by decide) ⟨x, H, I1, ru, ⟨rfl, fun ys hy => by rw [I.list_inj hy hq]; exact hx⟩, st', fun b hb => (hf b hb).1⟩⟩
  done := by
    intro X hP hw hK hc i pins s σ H E I hf st hg
    subst hP hw hK
    obtain ⟨xs, hq, hx⟩ := hg
    obtain ⟨its, rv, p, hz⟩ := I.list hq
    obtain ⟨f0, f1, f2, f3, f4, f5⟩ := hf it (by simp)
    have hl := rv.length
    exact wpAny_pyNext_list_end (I.ok.hd hc) st p.isList (by simp; omega) fun h' eb => ⟨rfl, I.turned (t' := s.toks) (fun b o hb e => eb b o hb e) f0 f1 f3 f4 f5⟩
  self := fun _ _ _ _ _ st h => wpAny_pyIter_listiter st h
theorem turn_range {P : Program} {w : World} {K : PySem.W.Frag} {tg : Expr} (it : Addr) (lo : Int) (n : Nat) : Turn P w K tg (Itr lo n) [it] it (fun i h => IsRangeIter h it (lo + (i : Nat) * 1) ((n : Int) - (i : Nat)) 1) where
  mem := by simp
  obj := fun i h st b hb => by
    have e : b = it := by simpa using hb
    subst e
    exact ⟨_, st, fun v z => by
      have z' : Data.fields _ = Data.cell v := z
      cases z'⟩
  keep := fun i h h' st k => k it (by simp) _ st
  item := by
    intro X hP hw hK hc i pins s σ H E I hf st hg
    subst hP hw hK
    obtain ⟨f0, f1, f2, f3, f4, f5⟩ := hf it (by simp)
    have W := Walks.range (prog := X.prog) (w := X.w) (I.ok.hd hc) it lo 1 n
    refine W.item i s _ _ hg st fun v h' tk hv st' kk => ?_
    obtain ⟨t, rfl⟩ := hv
    have I1 : Inv X pins σ H { s with heap := h', toks := tk } := I.turned (fun b o hb e => kk b o (by simpa using hb) e) f0 f1 f3 f4 f5
    refine ⟨_, rfl, go_of (s := { s with heap := h', toks := tk }) (n := "range_iterator") st' rfl rfl (by decide) ⟨.int (lo + i), H, I1, ⟨t, ?_⟩, ⟨rfl, rfl⟩, st', fun b hb => (hf b hb).1⟩⟩
    rw [Int.mul_one]
  done := by
    intro X hP hw hK hc i pins s σ H E I hf st hg
    subst hP hw hK
    obtain ⟨f0, f1, f2, f3, f4, f5⟩ := hf it (by simp)
    exact wpAny_pyNext_range_end (I.ok.hd hc) st (by have : n ≤ i := hg; omega) fun h' eb => ⟨rfl, I.turned (t' := s.toks) (fun b o hb e => eb b o hb e) f0 f1 f3 f4 f5⟩
  self := fun _ _ _ _ _ st h => wpAny_pyIter_rangeiter st h
end L2

namespace L2
open PySem PySem.Spec PyProof.Rows
section
variable {X : Cx} {tg : Expr}
def iList (K : PySem.W.Frag) (tl : TE) : TI := fun σ H R => tl σ H fun x H1 => ∃ a, x = .ref a ∧ (∃ xs, SqL K H1 a xs) ∧ R (Itl K a) H1
theorem pi_list {l : Expr} {tl : TE} (hl : PE X l tl) : PI X tg l (iList X.K tl) := by
  intro pins s σ H R I h
  refine thn (hl pins s σ H _ I h) fun v s1 ⟨x, H1, I1, r1, q1⟩ => ?_
  obtain ⟨a, e, ⟨xs, hq⟩, q⟩ := q1
  subst e
  cases r1
  obtain ⟨its, rv, p, hz⟩ := I1.list hq
  refine wpAny_pyIter_list p.isList ?_
  refine ⟨s1.heap.objs.size, [s1.heap.objs.size], _, _, H1, rfl, I1.kept (t' := s1.toks) fun b o e => Heap.get?_push_of_some _ e, turn_list a _, ⟨_, Heap.get?_push_size _ rfl, rfl, rfl⟩, fun b hb => ?_, q⟩
  have e : b = s1.heap.objs.size := by simpa using hb
  subst e
  exact I1.fpOk (Nat.le_refl _) (I1.hok.fresh (Nat.le_refl _))
/-- a range object just made, walked -/
theorem range_it {pins : List (Addr × Obj)} {σ : St} {H : Hp} {s : Shared} {R : It → Hp → Prop} {E : Value → Shared → Prop} {lo hi : Int} {t u v : Tok} {tk : Nat} (I : Inv X pins σ H s) (h1 : -(2 ^ 62) ≤ lo) (h2 : lo < 2 ^ 62) (h3 : -(2 ^ 62) ≤ hi) (h4 : hi < 2 ^ 62)
    (q : R (Itr lo (hi - lo).toNat) H) : wpAny (model X.prog X.w) X.A (pyIter (.ref s.heap.objs.size)) (PIE X pins σ tg R) E { s with heap := s.heap.push { cls := .type "range", data := .fields #[.int lo t, .int hi u, .int 1 v] }, toks := tk } := by
  refine wpAny_pyIter_range (IsRange.new ..) (small_one h1 h2 h3 h4) ?_
  have I1 : Inv X pins σ H { s with heap := s.heap.push { cls := .type "range", data := .fields #[.int lo t, .int hi u, .int 1 v] }, toks := tk } := I.kept fun b o e => Heap.get?_push_of_some _ e
  refine ⟨(s.heap.push { cls := .type "range", data := .fields #[.int lo t, .int hi u, .int 1 v] }).objs.size, [(s.heap.push { cls := .type "range", data := .fields #[.int lo t, .int hi u, .int 1 v] }).objs.size], _, _, H, rfl,
    I1.kept (t' := tk) fun b o e => Heap.get?_push_of_some _ e, turn_range _ lo (hi - lo).toNat, ?_, fun b hb => ?_, q⟩
  · have e1 : lo + ((0 : Nat) : Int) * 1 = lo := by simp
    have e2 : (((hi - lo).toNat : Nat) : Int) - ((0 : Nat) : Int) = Builtin.Range.rangeSize lo hi 1 := by rw [rangeSize_one]; split <;> omega
    show IsRangeIter _ _ (lo + ((0 : Nat) : Int) * 1) ((((hi - lo).toNat : Nat) : Int) - ((0 : Nat) : Int)) 1
    rw [e1, e2]
    exact Heap.get?_push_size _ rfl
  · have e : b = (s.heap.push { cls := .type "range", data := .fields #[.int lo t, .int hi u, .int 1 v] }).objs.size := by simpa using hb
    subst e
    exact I1.fpOk (Nat.le_refl _) (I1.hok.fresh (Nat.le_refl _))
def iRng1 (ta : TA) : TI := fun σ H R => ta σ H fun vs H1 => ∃ j : Int, vs = [.int j] ∧ -(2 ^ 62) ≤ j ∧ j < 2 ^ 62 ∧ R (Itr 0 j.toNat) H1
theorem pi_range1 {a : Expr} {ta : TA} {p pos : Pos} (hg : Gl X "range") (hm : X.mg "range" = none) (ha : PA X [a] ta) (hs : starEach [a] X.env = [(false, eval a X.env)] := by rfl) : PI X tg (.Call (.Name "range" p) [a] [] pos) (iRng1 ta) := by
  intro pins s σ H R I h
  refine Call_ (ld_blt I hg hm boot_range (PyProof.Rows.callWith_type1 (thn (ha pos pins s σ H _ I h) fun us s1 ⟨vs, H1, I1, r1, q1⟩ => ?_) hs rfl))
  obtain ⟨j, e, q1, q2, q⟩ := q1
  subst e
  cases r1 with
  | cons r rr =>
    cases rr
    obtain ⟨t, rfl⟩ := r
    exact call_range_1 (range_it I1 (by omega) (by omega) q1 q2 (by simpa using q))
/-! ### for -/
/-- W: the invariant by the turn and a measure; N: what the body is to reach -/
def tFor (wi : TI) (g : TG) (tb : TS) : TS := fun D σ H => wi σ H fun J H1 => ∃ W : Nat → Nat → St → Hp → Prop, (∃ m, W 0 m σ H1) ∧ ∀ i m σ H, W i m σ H →
  (J.stop i H ∧ D.nx σ H) ∨ (J.go i H ∧ ∃ N : St → Hp → Prop, (∀ σ' H', N σ' H' → ∃ m', m' < m ∧ W (i + 1) m' σ' H') ∧ ∀ x H', J.yld i H x H' → g x σ H' fun σ2 H2 => tb { D with nx := N, ct := N, bk := D.nx } σ2 H2)
/-- the records at fp as they stand -/
def pinsAt (fp : List Addr) (h : Heap) : List (Addr × Obj) := fp.filterMap fun b => (h.get? b).map fun o => (b, o)
theorem mem_pinsAt {fp : List Addr} {h : Heap} {b : Addr} {o : Obj} (hb : b ∈ fp) (e : h.get? b = some o) : (b, o) ∈ pinsAt fp h := List.mem_filterMap.mpr ⟨b, hb, by rw [e]; rfl⟩
theorem of_pinsAt {fp : List Addr} {h : Heap} {p : Addr × Obj} (hp : p ∈ pinsAt fp h) : p.1 ∈ fp ∧ h.get? p.1 = some p.2 := by
  obtain ⟨b, hb, e⟩ := List.mem_filterMap.mp hp
  cases q : h.get? b with
  | none => rw [q] at e; cases e
  | some o =>
    rw [q] at e
    have e' : (b, o) = p := Option.some.inj e
    subst e'
    exact ⟨hb, q⟩
theorem Inv.pinned {pins : List (Addr × Obj)} {σ : St} {H : Hp} {s : Shared} {fp : List Addr} (I : Inv X pins σ H s) (hf : ∀ b ∈ fp, FpOk X pins H b) (ho : ∀ b ∈ fp, ∃ o, s.heap.get? b = some o ∧ ∀ v, o.data ≠ .cell v) : Inv X (pins ++ pinsAt fp s.heap) σ H s :=
  I.pins_of fun p hp => (List.mem_append.mp hp).elim (fun z => I.pin p (List.mem_append_right _ z)) fun z => by
    obtain ⟨hb, e⟩ := of_pinsAt z
    obtain ⟨f0, f1, f2, _⟩ := hf p.1 hb
    obtain ⟨o, e', d⟩ := ho p.1 hb
    rw [e] at e'; cases e'
    exact ⟨e, f0, f1, f2, d⟩
theorem Inv.unpinned {pins pl : List (Addr × Obj)} {σ : St} {H : Hp} {s : Shared} (I : Inv X (pins ++ pl) σ H s) : Inv X pins σ H s := I.pins_of fun p hp => I.pin p (List.mem_append_right _ (List.mem_append_left _ hp))
theorem ps_for {iter : Expr} {body : List Stmt} {wi : TI} {g : TG} {tb : TS} {pos : Pos} (hp : PassesOwn (model X.prog X.w) X.A X.env X.xe) (hc : X.calm = true) (hi : PI X tg iter wi) (hg : PG X tg g) (hb : PSs X body tb)
    (hs : ∀ x, foldedSetIterable iter X.env x = pure x := by intro _; rfl) : PS X (.For tg iter body [] pos) (tFor wi g tb) := by
  intro pins s σ H D I h
  refine wpAny_For (thn (hi pins s σ H _ I h) fun v s1 h1 => thn h1 fun itv s2 h2 => ?_) hs
  obtain ⟨it, fp, tn, J, H2, e, I2, T, st2, f2, W, ⟨m0, w0⟩, turn⟩ := h2
  subst e
  -- what stays true of the iterator's objects through the loop
  have stat : ∀ {H' : Hp}, (∀ b ∈ fp, H' b = none) → ∀ b ∈ fp, FpOk X pins H' b := fun hn b hb => ⟨hn b hb, (f2 b hb).2⟩
  refine codeAny_forLoop_any (fun n s' => ∃ i σ' H', Inv X pins σ' H' s' ∧ tn i s'.heap ∧ (∀ b ∈ fp, H' b = none) ∧ W i n σ' H') ?_ m0 ⟨0, σ, H2, I2, st2, fun b hb => (f2 b hb).1, w0⟩
  rintro n s3 ⟨i, σ3, H3, I3, st3, fr3, w3⟩
  rcases turn i n σ3 H3 w3 with ⟨stop, qn⟩ | ⟨go, N, hN, step⟩
  · refine wpAny_passesOwn hp (thn (T.done X rfl rfl rfl hc i pins s3 σ3 H3 X.xe I3 (stat fr3) st3 stop) fun r s4 ⟨hr, I4⟩ => ?_)
    subst hr
    exact wpAny_execs_nil ⟨σ3, H3, I4, qn⟩
  · refine wpAny_passesOwn hp (thn (T.item X rfl rfl rfl hc i pins s3 σ3 H3 X.xe I3 (stat fr3) st3 go) fun r s4 ⟨u, hr, h4⟩ => ?_)
    subst hr
    refine wpAny_passesOwn hp (thn h4 fun _ s5 ⟨x, H5, I5, r5, y5, st5, fr5⟩ => ?_)
    have I5' := I5.pinned (stat fr5) (T.obj _ _ st5)
    refine wpAny_passesOwn hp (thn (hg _ s5 σ3 H5 x u _ I5' r5 (step x H5 y5)) fun _ s6 ⟨σ6, H6, I6, q6⟩ => ?_)
    refine wpAny_passesOwn hp (thn (hb _ s6 σ6 H6 _ I6 q6) fun f s7 q7 => ?_)
    have again : ∀ {σ7 : St} {H7 : Hp}, Inv X (pins ++ pinsAt fp s5.heap) σ7 H7 s7 → N σ7 H7 → ∃ m, m < n ∧ ∃ i σ' H', Inv X pins σ' H' s7 ∧ tn i s7.heap ∧ (∀ b ∈ fp, H' b = none) ∧ W i m σ' H' := fun {σ7 H7} I7 n7 => by
      obtain ⟨m', hm, w7⟩ := hN σ7 H7 n7
      refine ⟨m', hm, i + 1, σ7, H7, I7.unpinned, T.keep _ _ _ st5 fun b hb o e => (I7.pin (b, o) (List.mem_append_right _ (List.mem_append_right _ (mem_pinsAt hb e)))).1, fun b hb => ?_, w7⟩
      obtain ⟨o, e, d⟩ := T.obj _ _ st5 b hb
      exact (I7.pin (b, o) (List.mem_append_right _ (List.mem_append_right _ (mem_pinsAt hb e)))).2.1
    cases f with
    | next => obtain ⟨σ7, H7, I7, n7⟩ := q7; exact again I7 n7
    | cont => obtain ⟨σ7, H7, I7, n7⟩ := q7; exact again I7 n7
    | brk => obtain ⟨σ7, H7, I7, q7⟩ := q7; exact ⟨σ7, H7, I7.unpinned, q7⟩
    | ret v => obtain ⟨x7, σ7, H7, I7, r7, q7⟩ := q7; exact ⟨x7, σ7, H7, I7.unpinned, r7, q7⟩
end

/-! ### the forms one uses -/
/-- over a list that the body leaves as it is -/
theorem for_list {K : PySem.W.Frag} {a : Addr} {xs : List V} {g : TG} {tb : TS} {D : Ends} {σ : St} {H : Hp} (Pv : Nat → St → Hp → Prop) (h0 : Pv 0 σ H) (hl : ∀ i σ H, i ≤ xs.length → Pv i σ H → SqL K H a xs)
    (hs : ∀ i x σ H, xs[i]? = some x → Pv i σ H → g x σ H fun σ2 H2 => tb { D with nx := Pv (i + 1), ct := Pv (i + 1), bk := D.nx } σ2 H2) (hd : ∀ σ H, Pv xs.length σ H → D.nx σ H) :
    ∃ W : Nat → Nat → St → Hp → Prop, (∃ m, W 0 m σ H) ∧ ∀ i m σ H, W i m σ H →
      ((Itl K a).stop i H ∧ D.nx σ H) ∨ ((Itl K a).go i H ∧ ∃ N : St → Hp → Prop, (∀ σ' H', N σ' H' → ∃ m', m' < m ∧ W (i + 1) m' σ' H') ∧ ∀ x H', (Itl K a).yld i H x H' → g x σ H' fun σ2 H2 => tb { D with nx := N, ct := N, bk := D.nx } σ2 H2) := by
  refine ⟨fun i m σ H => m = xs.length - i ∧ i ≤ xs.length ∧ Pv i σ H, ⟨xs.length, by simp, Nat.zero_le _, h0⟩, ?_⟩
  rintro i m σ H ⟨rfl, hi, p⟩
  have q := hl i σ H hi p
  by_cases hlt : i < xs.length
  · refine .inr ⟨⟨xs, xs[i], q, by simp [hlt]⟩, Pv (i + 1), fun σ' H' p' => ⟨xs.length - (i + 1), by omega, rfl, hlt, p'⟩, fun x H' y => ?_⟩
    obtain ⟨e, y⟩ := y
    subst e
    exact hs i x σ _ (y xs q) p
  · have e : i = xs.length := by omega
    subst e
    exact .inl ⟨⟨xs, q, Nat.le_refl _⟩, hd σ H p⟩
theorem for_range {lo : Int} {n : Nat} {g : TG} {tb : TS} {D : Ends} {σ : St} {H : Hp} (Pv : Nat → St → Hp → Prop) (h0 : Pv 0 σ H)
    (hs : ∀ i σ H, i < n → Pv i σ H → g (.int (lo + i)) σ H fun σ2 H2 => tb { D with nx := Pv (i + 1), ct := Pv (i + 1), bk := D.nx } σ2 H2) (hd : ∀ σ H, Pv n σ H → D.nx σ H) :
    ∃ W : Nat → Nat → St → Hp → Prop, (∃ m, W 0 m σ H) ∧ ∀ i m σ H, W i m σ H →
      ((Itr lo n).stop i H ∧ D.nx σ H) ∨ ((Itr lo n).go i H ∧ ∃ N : St → Hp → Prop, (∀ σ' H', N σ' H' → ∃ m', m' < m ∧ W (i + 1) m' σ' H') ∧ ∀ x H', (Itr lo n).yld i H x H' → g x σ H' fun σ2 H2 => tb { D with nx := N, ct := N, bk := D.nx } σ2 H2) := by
  refine ⟨fun i m σ H => m = n - i ∧ i ≤ n ∧ Pv i σ H, ⟨n, by simp, Nat.zero_le _, h0⟩, ?_⟩
  rintro i m σ H ⟨rfl, hi, p⟩
  by_cases hlt : i < n
  · refine .inr ⟨hlt, Pv (i + 1), fun σ' H' p' => ⟨n - (i + 1), by omega, rfl, hlt, p'⟩, fun x H' y => ?_⟩
    obtain ⟨e, y⟩ := y
    subst e y
    exact hs i σ _ hlt p
  · have e : i = n := by omega
    subst e
    exact .inl ⟨Nat.le_refl _, hd σ H p⟩
end L2

namespace L2
open PySem PySem.Spec PyProof.Rows

abbrev R2 := V → V → Hp → VK → Prop
/-- a two-place operation on values: f is binaryOp op, inplaceOp op or compareOp op -/
def OpR (X : Cx) (f : Value → Value → Sem Value) (r : R2) : Prop :=
  ∀ (pins : List (Addr × Obj)) (s : Shared) (σ : St) (H : Hp) (x y : V) (v u : Value) (Q : VK), Inv X pins σ H s → RelV x v → RelV y u → r x y H Q →
    wpAny (model X.prog X.w) X.A (f v u) (EP X pins σ Q) X.xe s
/-- a one-place operation -/
def UnR (X : Cx) (f : Value → Sem Value) (r : V → Hp → VK → Prop) : Prop :=
  ∀ (pins : List (Addr × Obj)) (s : Shared) (σ : St) (H : Hp) (x : V) (v : Value) (Q : VK), Inv X pins σ H s → RelV x v → r x H Q →
    wpAny (model X.prog X.w) X.A (f v) (EP X pins σ Q) X.xe s
/-- a call of a value that is known (a builtin, a type) with values -/
def CallR (X : Cx) (f : Value) (r : List V → Hp → VK → Prop) : Prop :=
  ∀ (pins : List (Addr × Obj)) (s : Shared) (σ : St) (H : Hp) (xs : List V) (us : List Value) (Q : VK), Inv X pins σ H s → Vals xs us → r xs H Q →
    wpAny (model X.prog X.w) X.A (call f us) (EP X pins σ Q) X.xe s
/-- a value's truth -/
def TruR (X : Cx) (r : V → Hp → (Bool → Hp → Prop) → Prop) : Prop :=
  ∀ (pins : List (Addr × Obj)) (s : Shared) (σ : St) (H : Hp) (x : V) (v : Value) (Q : Bool → Hp → Prop), Inv X pins σ H s → RelV x v → r x H Q →
    wpAny (model X.prog X.w) X.A (truthy v) (TP X pins σ Q) X.xe s

def tOp (r : R2) (ta tb : TE) : TE := fun σ H Q => ta σ H fun x H1 => tb σ H1 fun y H2 => r x y H2 Q
def tUn (r : V → Hp → VK → Prop) (ta : TE) : TE := fun σ H Q => ta σ H fun x H1 => r x H1 Q
/-- ints in, under C, and a value out -/
def rI (C : Int → Int → Prop) (g : Int → Int → V) : R2 := fun x y H Q => ∃ i j, x = .int i ∧ y = .int j ∧ C i j ∧ Q (g i j) H
def rI0 (g : Int → Int → V) : R2 := fun x y H Q => ∃ i j, x = .int i ∧ y = .int j ∧ Q (g i j) H
def rU (g : Int → V) : V → Hp → VK → Prop := fun x H Q => ∃ i, x = .int i ∧ Q (g i) H

section
variable {X : Cx} {a b c : Expr} {ta tb tc : TE} {pos : Pos}

theorem binT (ha : PE X a ta) (hb : PE X b tb) {pins : List (Addr × Obj)} {s : Shared} {σ : St} {H : Hp} {R : V → V → Hp → Prop} (I : Inv X pins σ H s)
    (h : ta σ H fun x H1 => tb σ H1 fun y H2 => R x y H2) {Q : Value → Shared → Prop} {f : Value → Value → Sem Value}
    (hf : ∀ v u s2 x y H2, Inv X pins σ H2 s2 → RelV x v → RelV y u → R x y H2 → wpAny (model X.prog X.w) X.A (f v u) Q X.xe s2) :
    wpAny (model X.prog X.w) X.A (eval a X.env) (fun v s₁ => wpAny (model X.prog X.w) X.A (eval b X.env) (fun u s₂ => wpAny (model X.prog X.w) X.A (f v u) Q X.xe s₂) X.xe s₁) X.xe s := by
  refine thn (ha pins s σ H _ I h) fun v s1 ⟨x, H1, I1, r1, q1⟩ => ?_
  refine thn (hb pins s1 σ H1 _ I1 q1) fun u s2 ⟨y, H2, I2, r2, q2⟩ => ?_
  exact hf v u s2 x y H2 I2 r1 r2 q2

theorem pe_op {op : Operator} {r : R2} (ho : OpR X (binaryOp op) r) (ha : PE X a ta) (hb : PE X b tb) : PE X (.BinOp a op b pos) (tOp r ta tb) := by
  intro pins s σ H Q I h
  exact wpAny_BinOp (binT ha hb I h fun v u s2 x y H2 I2 rx ry q => ho pins s2 σ H2 x y v u Q I2 rx ry q)
theorem pe_un {op : UnaryOp} {r : V → Hp → VK → Prop} (ho : UnR X (unaryOp op) r) (ha : PE X a ta) : PE X (.UnaryOp op a pos) (tUn r ta) := by
  intro pins s σ H Q I h
  exact UnaryOp_ (thn (ha pins s σ H _ I h) fun v s1 ⟨x, H1, I1, r1, q1⟩ => ho pins s1 σ H1 x v Q I1 r1 q1)
/-! ### ints -/
theorem opI {f : Value → Value → Sem Value} {C : Int → Int → Prop} {g : Int → Int → Int}
    (rule : ∀ (i j : Int) (t u : Tok) (s : Shared) (Q : Value → Shared → Prop) (E : Value → Shared → Prop), C i j → Q (.int (g i j) s.toks) { s with toks := s.toks + 1 } → wpAny (model X.prog X.w) X.A (f (.int i t) (.int j u)) Q E s) :
    OpR X f (rI C fun i j => .int (g i j)) := by
  intro pins s σ H x y v u Q I rx ry h
  obtain ⟨i, j, rfl, rfl, hc, q⟩ := h
  obtain ⟨t, rfl⟩ := rx
  obtain ⟨t', rfl⟩ := ry
  exact rule i j t t' s _ _ hc ⟨.int (g i j), H, I.tok _, ⟨_, rfl⟩, q⟩
theorem opI0 {f : Value → Value → Sem Value} {g : Int → Int → Int}
    (rule : ∀ (i j : Int) (t u : Tok) (s : Shared) (Q : Value → Shared → Prop) (E : Value → Shared → Prop), Q (.int (g i j) s.toks) { s with toks := s.toks + 1 } → wpAny (model X.prog X.w) X.A (f (.int i t) (.int j u)) Q E s) :
    OpR X f (rI0 fun i j => .int (g i j)) := by
  intro pins s σ H x y v u Q I rx ry h
  obtain ⟨i, j, rfl, rfl, q⟩ := h
  obtain ⟨t, rfl⟩ := rx
  obtain ⟨t', rfl⟩ := ry
  exact rule i j t t' s _ _ ⟨.int (g i j), H, I.tok _, ⟨_, rfl⟩, q⟩
theorem opB0 {f : Value → Value → Sem Value} {g : Int → Int → Bool}
    (rule : ∀ (i j : Int) (t u : Tok) (s : Shared) (Q : Value → Shared → Prop) (E : Value → Shared → Prop), Q (.bool (g i j)) s → wpAny (model X.prog X.w) X.A (f (.int i t) (.int j u)) Q E s) :
    OpR X f (rI0 fun i j => .bl (g i j)) := by
  intro pins s σ H x y v u Q I rx ry h
  obtain ⟨i, j, rfl, rfl, q⟩ := h
  obtain ⟨t, rfl⟩ := rx
  obtain ⟨t', rfl⟩ := ry
  exact rule i j t t' s _ _ ⟨.bl (g i j), H, I, rfl, q⟩

def CDiv (i j : Int) : Prop := 0 < j ∧ j < 1073741824
def CMul (i j : Int) : Prop := (-(2 ^ 64) < i ∧ i < 2 ^ 64) ∨ (-(2 ^ 64) < j ∧ j < 2 ^ 64)
theorem CMul.ok {i j : Int} (h : CMul i j) : IntMulOk i j := by
  rcases h with ⟨h1, h2⟩ | ⟨h1, h2⟩
  · exact .of_left (intBits_le_64 h1 h2)
  · exact .of_right (intBits_le_64 h1 h2)
theorem op_add : OpR X (binaryOp .Add) (rI0 fun i j => .int (i + j)) := opI0 fun _ _ _ _ _ _ _ q => add_int q
theorem op_sub : OpR X (binaryOp .Sub) (rI0 fun i j => .int (i - j)) := opI0 fun _ _ _ _ _ _ _ q => sub_int q
theorem op_mul : OpR X (binaryOp .Mult) (rI CMul fun i j => .int (i * j)) := opI fun _ _ _ _ _ _ _ hc q => mul_int q hc.ok
/-- // by a positive divisor -/
theorem op_fdiv : OpR X (binaryOp .FloorDiv) (rI CDiv fun i j => .int (i / j)) := opI fun i j _ _ _ _ _ hc q => by
  have h1 : (0 : Int) < j := hc.1
  have h2 : j < 1073741824 := hc.2
  exact floordiv_int (by omega) (by rw [Int.fdiv_eq_ediv_of_nonneg i (by omega)]; exact q) (.inl (PyProof.noPylong_small (by omega)))
/-- % by a positive divisor of any size -/
theorem op_mod : OpR X (binaryOp .Mod) (rI (fun _ j => 0 < j) fun i j => .int (i % j)) := opI fun i j _ _ _ _ _ hc q => by
  have h1 : (0 : Int) < j := hc
  exact mod_int' (by omega) (by rw [Int.fmod_eq_emod_of_nonneg i (by omega)]; exact q)
theorem unI {f : Value → Sem Value} {g : Int → Int}
    (rule : ∀ (i : Int) (t : Tok) (s : Shared) (Q : Value → Shared → Prop) (E : Value → Shared → Prop), Q (.int (g i) s.toks) { s with toks := s.toks + 1 } → wpAny (model X.prog X.w) X.A (f (.int i t)) Q E s) :
    UnR X f (rU fun i => .int (g i)) := by
  intro pins s σ H x v Q I rx h
  obtain ⟨i, rfl, q⟩ := h
  obtain ⟨t, rfl⟩ := rx
  exact rule i t s _ _ ⟨.int (g i), H, I.tok _, ⟨_, rfl⟩, q⟩
theorem un_neg : UnR X (unaryOp .USub) (rU fun i => .int (-i)) := unI fun _ _ _ _ _ q => neg_int q
/-! ### bools among ints: n += (a < b) -/
end

/-! ### comparisons -/
/-- the scalars that == tells apart as data does -/
def scal : V → V → Bool
  | .non, .non => true | .non, .int _ => true | .int _, .non => true | .non, .bl _ => true | .bl _, .non => true | .non, .str _ => true | .str _, .non => true
  | .int _, .int _ => true | .bl _, .bl _ => true | .str _, .str _ => true | .byt _, .byt _ => true
  | .int _, .str _ => true | .str _, .int _ => true | .bl _, .str _ => true | .str _, .bl _ => true
  | _, _ => false
def rEq : R2 := fun x y H Q => scal x y = true ∧ Q (.bl (decide (x = y))) H
def rNe : R2 := fun x y H Q => scal x y = true ∧ Q (.bl (!decide (x = y))) H

theorem dec_int {i j : Int} : decide (V.int i = V.int j) = (i == j) := by
  rw [Bool.eq_iff_iff]
  simp
theorem dec_bl {i j : Bool} : decide (V.bl i = V.bl j) = (i == j) := by
  rw [Bool.eq_iff_iff]
  simp
theorem dec_str {i j : Str} : decide (V.str i = V.str j) = (i == j) := by
  rw [Bool.eq_iff_iff]
  simp
theorem dec_byt {i j : Array UInt8} : decide (V.byt i = V.byt j) = (i.toList == j.toList) := by
  rw [Bool.eq_iff_iff]
  cases i
  cases j
  simp

section
variable {X : Cx} {a b c : Expr} {ta tb tc : TE} {pos : Pos}
theorem fin_bl {pins : List (Addr × Obj)} {σ : St} {H : Hp} {s : Shared} {Q : VK} {k k' : Bool} (I : Inv X pins σ H s) (q : Q (.bl k) H) (e : k = k') : EP X pins σ Q (.bool k') s := by
  subst e
  exact ⟨.bl k, H, I, rfl, q⟩
theorem op_eq : OpR X (compareOp .Eq) rEq := by
  intro pins s σ H x y v u Q I rx ry h
  obtain ⟨hs, q⟩ := h
  cases x with
  | non =>
    cases rx
    cases y with
    | non => cases ry; exact PySem.EqNone.eq_none_none (fin_bl I q (by simp))
    | bl j => cases ry; exact PySem.EqNone.eq_none_bool (fin_bl I q (by simp))
    | int j => obtain ⟨t', rfl⟩ := ry; exact PySem.EqNone.eq_none_int (fin_bl I q (by simp))
    | str j => obtain ⟨t', rfl⟩ := ry; exact PySem.EqNone.eq_none_str (fin_bl I q (by simp))
    | _ => exact absurd (show false = true from hs) Bool.false_ne_true
  | bl i =>
    cases rx
    cases y with
    | non => cases ry; exact PySem.EqNone.eq_bool_none (fin_bl I q (by simp))
    | bl j => cases ry; exact eq_bool (fin_bl I q dec_bl)
    | str j => obtain ⟨t', rfl⟩ := ry; exact PySem.EqMixed.eq_bool_str (fin_bl I q (by simp))
    | _ => exact absurd (show false = true from hs) Bool.false_ne_true
  | int i =>
    obtain ⟨t, rfl⟩ := rx
    cases y with
    | non => cases ry; exact PySem.EqNone.eq_int_none (fin_bl I q (by simp))
    | int j => obtain ⟨t', rfl⟩ := ry; exact eq_int (fin_bl I q dec_int)
    | str j => obtain ⟨t', rfl⟩ := ry; exact PySem.EqMixed.eq_int_str (fin_bl I q (by simp))
    | _ => exact absurd (show false = true from hs) Bool.false_ne_true
  | str i =>
    obtain ⟨t, rfl⟩ := rx
    cases y with
    | non => cases ry; exact PySem.EqNone.eq_str_none (fin_bl I q (by simp))
    | bl j => cases ry; exact PySem.EqMixed.eq_str_bool (fin_bl I q (by simp))
    | int j => obtain ⟨t', rfl⟩ := ry; exact PySem.EqMixed.eq_str_int (fin_bl I q (by simp))
    | str j => obtain ⟨t', rfl⟩ := ry; exact eq_str (fin_bl I q dec_str)
    | _ => exact absurd (show false = true from hs) Bool.false_ne_true
  | byt i =>
    obtain ⟨t, rfl⟩ := rx
    cases y with
    | byt j => obtain ⟨t', rfl⟩ := ry; exact PySem.W.eq_bytes (fin_bl I q dec_byt)
    | _ => exact absurd (show false = true from hs) Bool.false_ne_true
  | _ => cases y <;> exact absurd (show false = true from hs) Bool.false_ne_true
theorem op_ne : OpR X (compareOp .NotEq) rNe := by
  intro pins s σ H x y v u Q I rx ry h
  obtain ⟨hs, q⟩ := h
  cases x with
  | non =>
    cases rx
    cases y with
    | non => cases ry; exact PySem.EqNone.ne_none_none (fin_bl I q (by simp))
    | bl j => cases ry; exact PySem.EqNone.ne_none_bool (fin_bl I q (by simp))
    | int j => obtain ⟨t', rfl⟩ := ry; exact PySem.EqNone.ne_none_int (fin_bl I q (by simp))
    | str j => obtain ⟨t', rfl⟩ := ry; exact PySem.EqNone.ne_none_str (fin_bl I q (by simp))
    | _ => exact absurd (show false = true from hs) Bool.false_ne_true
  | bl i =>
    cases rx
    cases y with
    | non => cases ry; exact PySem.EqNone.ne_bool_none (fin_bl I q (by simp))
    | bl j => cases ry; exact ne_bool (fin_bl I q (congrArg not dec_bl))
    | str j => obtain ⟨t', rfl⟩ := ry; exact PySem.EqMixed.ne_bool_str (fin_bl I q (by simp))
    | _ => exact absurd (show false = true from hs) Bool.false_ne_true
  | int i =>
    obtain ⟨t, rfl⟩ := rx
    cases y with
    | non => cases ry; exact PySem.EqNone.ne_int_none (fin_bl I q (by simp))
    | int j => obtain ⟨t', rfl⟩ := ry; exact ne_int (fin_bl I q (congrArg not dec_int))
    | str j => obtain ⟨t', rfl⟩ := ry; exact PySem.EqMixed.ne_int_str (fin_bl I q (by simp))
    | _ => exact absurd (show false = true from hs) Bool.false_ne_true
  | str i =>
    obtain ⟨t, rfl⟩ := rx
    cases y with
    | non => cases ry; exact PySem.EqNone.ne_str_none (fin_bl I q (by simp))
    | bl j => cases ry; exact PySem.EqMixed.ne_str_bool (fin_bl I q (by simp))
    | int j => obtain ⟨t', rfl⟩ := ry; exact PySem.EqMixed.ne_str_int (fin_bl I q (by simp))
    | str j => obtain ⟨t', rfl⟩ := ry; exact ne_str (fin_bl I q (congrArg not dec_str))
    | _ => exact absurd (show false = true from hs) Bool.false_ne_true
  | byt i =>
    obtain ⟨t, rfl⟩ := rx
    cases y with
    | byt j => obtain ⟨t', rfl⟩ := ry; exact PySem.W.ne_bytes (fin_bl I q (congrArg not dec_byt))
    | _ => exact absurd (show false = true from hs) Bool.false_ne_true
  | _ => cases y <;> exact absurd (show false = true from hs) Bool.false_ne_true

theorem op_lt : OpR X (compareOp .Lt) (rI0 fun i j => .bl (decide (i < j))) := opB0 fun _ _ _ _ _ _ _ q => lt_int q
theorem op_gt : OpR X (compareOp .Gt) (rI0 fun i j => .bl (decide (j < i))) := opB0 fun _ _ _ _ _ _ _ q => gt_int q
/-- two rules for one operation: by cases -/
theorem OpR.or {f : Value → Value → Sem Value} {r r' : R2} (h : OpR X f r) (h' : OpR X f r') : OpR X f (fun x y H Q => r x y H Q ∨ r' x y H Q) := by
  intro pins s σ H x y v u Q I rx ry q
  rcases q with q | q
  · exact h pins s σ H x y v u Q I rx ry q
  · exact h' pins s σ H x y v u Q I rx ry q

theorem nomark (b : Expr) {op : CmpOp} (h : op ≠ .In := by decide) (h2 : op ≠ .NotIn := by decide) : behindInMarks op b = false := by
  have e1 : (op == CmpOp.In) = false := by cases op <;> first | rfl | exact absurd rfl h
  have e2 : (op == CmpOp.NotIn) = false := by cases op <;> first | rfl | exact absurd rfl h2
  cases b <;> simp [behindInMarks, e1, e2]
/-- a comparison as a value; hm: nomark b, or (for in, not in) by with_unfolding_all rfl -/
theorem pe_cmpR {op : CmpOp} {r : R2} (ho : OpR X (compareOp op) r) (ha : PE X a ta) (hb : PE X b tb) (hm : behindInMarks op b = false) : PE X (.Compare a [op] [b] pos) (tOp r ta tb) := by
  intro pins s σ H Q I h
  exact wpAny_Compare1 (binT ha hb I h fun v u s2 x y H2 I2 rx ry q => ho pins s2 σ H2 x y v u Q I2 rx ry q) hm
/-- a reading of a value as a test -/
def tTest (t : TE) : TT := fun σ H Q => t σ H fun x H' => ∃ k, x = .bl k ∧ Q k H'
theorem pt_cmpR {op : CmpOp} {r : R2} (ho : OpR X (compareOp op) r) (ha : PE X a ta) (hb : PE X b tb) (hm : behindInMarks op b = false) : PT X (.Compare a [op] [b] pos) (tTest (tOp r ta tb)) := by
  intro pins s σ H Q I h
  refine wpAny_isTrue_Compare1 (thn (ha pins s σ H _ I h) fun v s1 ⟨x, H1, I1, r1, q1⟩ => thn (hb pins s1 σ H1 _ I1 q1) fun u s2 ⟨y, H2, I2, r2, q2⟩ =>
    thn (ho pins s2 σ H2 x y v u _ I2 r1 r2 q2) fun c s3 ⟨z, H3, I3, r3, k, e, q3⟩ => ?_) hm
  subst e
  cases r3
  exact wpAny_truthy_bool ⟨H3, I3, q3⟩
/-! ### truth -/
/-- a value's truth by the abstract heap -/
def TruV (K : PySem.W.Frag) (x : V) (H : Hp) (k : Bool) : Prop :=
  match x with
  | .non => k = false
  | .bl b => k = b
  | .int i => k = (i != 0)
  | .str y => y.length ≤ sizeLine ∧ k = ((y.length : Int) != 0)
  | .byt y => y.size ≤ sizeLine ∧ k = ((y.size : Int) != 0)
  | .ref p => (∃ xs, SqL K H p xs ∧ k = !xs.isEmpty) ∨ (∃ xs, SqT K H p xs ∧ k = !xs.isEmpty) ∨ ∃ kvs, H p = some (.dK kvs) ∧ k = !kvs.isEmpty
  | _ => False
theorem isEmpty_kv {κ : Type} {kvs : List (κ × V)} {vs : List (κ × Value)} (r : KV kvs vs) : (!vs.isEmpty) = !kvs.isEmpty := by
  cases r <;> rfl
theorem isEmpty_of {xs : List V} {its : List Value} (r : Vals xs its) : (!its.toArray.isEmpty) = !xs.isEmpty := by
  cases r <;> simp
theorem line63 : (sizeLine : Nat) < 2 ^ 63 := by rw [sizeLine_eq]; decide
theorem tru_ok : TruR X (fun x H Q => ∃ k, TruV X.K x H k ∧ Q k H) := by
  intro pins s σ H x v Q I rx h
  obtain ⟨k, e, q⟩ := h
  have hl := line63
  have hs : sizeLine = 16777216 := sizeLine_eq
  cases x with
  | non =>
    cases rx
    have e' : k = false := e
    subst e'
    exact truthy_none ⟨H, I, q⟩
  | bl b =>
    cases rx
    have e' : k = b := e
    subst e'
    exact wpAny_truthy_bool ⟨H, I, q⟩
  | int i =>
    obtain ⟨t, rfl⟩ := rx
    have e' : k = (i != 0) := e
    subst e'
    exact PySem.P.truthy_int ⟨H, I, q⟩
  | str y =>
    obtain ⟨t, rfl⟩ := rx
    obtain ⟨hy, e'⟩ : y.length ≤ sizeLine ∧ k = ((y.length : Int) != 0) := e
    subst e'
    exact PySem.P.truthy_str (by omega) ⟨H, I.tok _, q⟩
  | byt y =>
    obtain ⟨t, rfl⟩ := rx
    obtain ⟨hy, e'⟩ : y.size ≤ sizeLine ∧ k = ((y.size : Int) != 0) := e
    subst e'
    exact PySem.W.truthy_bytes (by omega) ⟨H, I.tok _, q⟩
  | ref p =>
    cases rx
    have e' : (∃ xs, SqL X.K H p xs ∧ k = !xs.isEmpty) ∨ (∃ xs, SqT X.K H p xs ∧ k = !xs.isEmpty) ∨ ∃ kvs, H p = some (.dK kvs) ∧ k = !kvs.isEmpty := e
    rcases e' with ⟨xs, hx, e'⟩ | ⟨xs, hx, e'⟩ | ⟨kvs, hx, e'⟩
    · subst e'
      obtain ⟨its, r, pl, hz⟩ := I.list hx
      have hlen := r.length
      exact wpAny_truthy_list pl.isList (by simp only [List.size_toArray]; omega) ⟨H, I.tok _, by rw [isEmpty_of r]; exact q⟩
    · subst e'
      obtain ⟨its, r, pl, hz⟩ := I.tuple hx
      have hlen := r.length
      exact truthy_tuple pl (by simp only [List.size_toArray]; omega) ⟨H, I.tok _, by rw [isEmpty_of r]; exact q⟩
    · subst e'
      obtain ⟨hz, hS, vs, r, m⟩ : kvs.length ≤ sizeLine ∧ (p == sysModules) = false ∧ ∃ vs, KV kvs vs ∧ s.heap.DictOf (mixKind X.prog X.w) p vs := I.hok p _ hx
      have hlen : kvs.length = vs.length := Paired.length r
      exact wpAny_truthy_dict hS m (by omega) ⟨H, I.tok _, by rw [isEmpty_kv r]; exact q⟩
  | _ => exact (show False from e).elim
/-- any expression whose test is its value's truth (a name, a call, a subscript, a field ..: he by fun _ => rfl) -/
theorem pt_truth (ha : PE X a ta) (he : ∀ whole, isTrue a X.env whole = (do let v ← whole; standAt a.pos; holding [v] (truthy v))) :
    PT X a (fun σ H Q => ta σ H fun x H' => ∃ k, TruV X.K x H' k ∧ Q k H') := by
  intro pins s σ H Q I h
  exact isTrue_plain (thn (ha pins s σ H _ I h) fun v s1 ⟨x, H1, I1, r1, q1⟩ => tru_ok pins s1 σ H1 x v Q I1 r1 q1) (he _)

/-! ### strs and bytes -/
/-! ### scalar builtins, by CallR -/
theorem vals1 {x : V} {us : List Value} (r : Vals [x] us) : ∃ u, us = [u] ∧ RelV x u := by
  cases r with
  | cons r1 r2 => cases r2; exact ⟨_, rfl, r1⟩
theorem vals2 {x y : V} {us : List Value} (r : Vals [x, y] us) : ∃ u w', us = [u, w'] ∧ RelV x u ∧ RelV y w' := by
  cases r with
  | cons r1 r2 =>
    cases r2 with
    | cons r3 r4 => cases r4; exact ⟨_, _, rfl, r1, r3⟩
theorem call_int1 : CallR X (.type "int") (fun xs H Q => (∃ i, xs = [.int i] ∧ Q (.int i) H) ∨ ∃ k, xs = [.bl k] ∧ Q (.int (if k then 1 else 0)) H) := by
  intro pins s σ H xs us Q I r h
  rcases h with ⟨i, rfl, q⟩ | ⟨k, rfl, q⟩
  · obtain ⟨u, rfl, t, rfl⟩ := vals1 r
    exact call_int_int ⟨.int i, H, I, ⟨_, rfl⟩, q⟩
  · obtain ⟨u, rfl, r1⟩ := vals1 r
    cases r1
    exact call_int_bool ⟨.int (if k then 1 else 0), H, I.tok _, ⟨_, rfl⟩, q⟩
end
end L2

namespace L2
open PySem PySem.Spec PyProof.Rows

/-! ### an instance, its attributes a map -/
structure ObjM (h : Heap) (x dx C : Addr) (mA : Str → Option Value) : Prop where
  obj : h.get? x = some (PySem.W.instObj C dx)
  ns : h.Ns1 dx mA
  ne : dx ≠ x

theorem lookIn_ns {h : Heap} {dx : Addr} {mA : Str → Option Value} (n : h.Ns1 dx mA) : ∃ od, h.get? dx = some od ∧ ∀ name, PySem.W.lookIn name od = some (mA name) := by
  obtain ⟨o, es, ep, ho, hd, hk, _, hm⟩ := n
  refine ⟨o, ho, fun name => ?_⟩
  have e := hm name
  unfold nsFind findBy at e
  rw [← Array.find?_toList] at e
  unfold PySem.W.lookIn
  rw [hd]
  dsimp only
  split
  · rename_i y q
    rw [q] at e
    exact congrArg some e
  · rename_i q
    rw [q] at e
    have a : es.toList.any (·.refKey) = false := by
      rw [List.any_eq_false]
      intro y hy
      obtain ⟨z, t, hkey⟩ := hk y (Array.mem_toList_iff.mp hy)
      simp [DictEntry.refKey, hkey]
    have a' : ¬ es.toList.any (·.refKey) = true := by rw [a]; exact Bool.false_ne_true
    rw [if_neg a']
    exact congrArg some e

theorem ObjM.look {h : Heap} {x dx C : Addr} {mA : Str → Option Value} (I : ObjM h x dx C mA) : ∃ od, PySem.W.InstAt h x (PySem.W.instObj C dx) C (some od) ∧ ∀ name, PySem.W.lookIn name od = some (mA name) :=
  let ⟨od, ho, hl⟩ := lookIn_ns I.ns
  ⟨od, ⟨I.obj, rfl, rfl, ho⟩, hl⟩

section
variable {prog : Program} {w : World} {A : Around} {E : Value → Shared → Prop} {s : Shared} {K : PySem.W.Frag} {x dx C f : Addr} {mA : Str → Option Value} {name : Str} {v : Value}

end

/-! ### the attributes as a list of pairs -/
theorem RelO.some_of {v : V} {o : Option Value} (r : RelO (some v) o) : ∃ u, o = some u ∧ RelV v u := by
  cases o with
  | none => exact (show False from r).elim
  | some u => exact ⟨u, rfl, r⟩
section
variable {P : Program} {w : World} {H H' : Hp} {h h' : Heap} {a C dx : Addr} {fs fs' : List (Str × V)}
theorem ins_get (hok : HOk P w H h) (e : H a = some (.ins C dx fs)) : ∃ mA, ObjM h a dx C mA ∧ (∀ f, RelO (fs.lookup f) (mA f)) ∧ PySem.Within mA (fs.map (·.1)) ∧ fs.length ≤ 1000 ∧ H dx = some (.own a) := by
  obtain ⟨d, z, ne, ob, mA, n, r, q⟩ := (show ObjOk P w H h a (.ins C dx fs) from hok a _ e)
  exact ⟨mA, ⟨ob, n, ne⟩, r, q, z, d⟩
end

/-! ### what of the text a class must have -/
structure Cls (K : PySem.W.Frag) (C : Addr) : Prop where
  pg : PySem.W.plainGet K C Str.empty = true
  hd : PySem.W.hasDictIn K C = true
  po : PySem.W.plainOver K C = true
  sa : PySem.W.findIn K (.ref C) "__setattr__" = some (some (.builtin "object.__setattr__"))
theorem Cls.get {K : PySem.W.Frag} {C : Addr} (c : Cls K C) (f : Str) : PySem.W.plainGet K C f = true := c.pg
section
variable {X : Cx} {pins : List (Addr × Obj)} {σ : St} {H : Hp} {s : Shared} {a C dx : Addr} {fs : List (Str × V)} {f : Str} {v : V} {A : Around} {E : Value → Shared → Prop}

/-- a new instance, tracked, without attributes -/
theorem Inv.made (I : Inv X pins σ H s) : Inv X pins σ (upd (upd H s.heap.objs.size (.own (s.heap.objs.size + 1))) (s.heap.objs.size + 1) (.ins C s.heap.objs.size []))
    { s with heap := (s.heap.push PySem.W.emptyDict).push (PySem.W.instObj C s.heap.objs.size) } := by
  have e1 : (s.heap.push PySem.W.emptyDict).get? s.heap.objs.size = some PySem.W.emptyDict := Heap.get?_push_size s.heap rfl
  have e2 : ((s.heap.push PySem.W.emptyDict).push (PySem.W.instObj C s.heap.objs.size)).get? (s.heap.objs.size + 1) = some (PySem.W.instObj C s.heap.objs.size) := by
    have := Heap.get?_push_size (s.heap.push PySem.W.emptyDict) (o := PySem.W.instObj C s.heap.objs.size) rfl
    rwa [Heap.size_push] at this
  have e3 : (s.heap.push PySem.W.emptyDict).Ns s.heap.objs.size (fun _ => none) := ⟨PySem.W.emptyDict, #[], _, e1, rfl, (fun e he => absurd he (by simp)), fun _ => rfl⟩
  have I1 := I.laid (a := s.heap.objs.size) (o := .own (s.heap.objs.size + 1)) (h' := s.heap.push PySem.W.emptyDict) (t' := s.toks) (fun b u q => Heap.get?_push_of_some _ q) (Nat.le_refl _) ⟨_, e1⟩
  refine I1.laid (a := s.heap.objs.size + 1) (o := .ins C s.heap.objs.size []) (t' := s.toks) (fun b u q => Heap.get?_push_of_some _ q) (Nat.le_of_eq (Heap.size_push _ _)) ?_
  have ne : s.heap.objs.size ≠ s.heap.objs.size + 1 := Nat.ne_of_lt (Nat.lt_succ_self _)
  refine ⟨by rw [upd_ne ne, upd_same], Nat.zero_le _, ne, e2, fun _ => none, (Heap.Ns1.of_empty e3).at fun o q => Heap.get?_push_of_some _ q, fun _ => True.intro, fun y hy => absurd rfl hy⟩

end

/-! ### readings and rules -/
section
variable {X : Cx} {o e value : Expr} {f : Str} {pos pos' tpos : Pos} {ta tv : TE}
end

/-! ### isinstance -/
section
variable {X : Cx} {pins : List (Addr × Obj)} {σ : St} {H : Hp} {s : Shared} {A : Around} {E : Value → Shared → Prop} {Q : Value → Shared → Prop} {c : Value} {b : Bool}
/-- the type of a value, as the fragment's deciders take it; for an instance its class -/
inductive TyOf (K : PySem.W.Frag) (H : Hp) : V → Value → Prop where
  | non : TyOf K H .non (.type "NoneType")
  | bl (x : Bool) : TyOf K H (.bl x) (.type "bool")
  | int (i : Int) : TyOf K H (.int i) (.type "int")
  | str (x : Str) : TyOf K H (.str x) (.type "str")
  | flt (x : UInt64) : TyOf K H (.flt x) (.type "float")
  | lst {a : Addr} {xs : List V} (e : H a = some (.lst xs)) : TyOf K H (.ref a) (.type "list")
  | frz {a : Addr} {o : Obj} {xs : List V} (e : H a = some (.frz o (.lst xs))) : TyOf K H (.ref a) (.type "list")
  | tup {a : Addr} {xs : List V} (e : H a = some (.tup xs)) : TyOf K H (.ref a) (.type "tuple")
  | dK {a : Addr} {kvs : List (Key × V)} (e : H a = some (.dK kvs)) : TyOf K H (.ref a) (.type "dict")
  | dT {a : Addr} {kvs : List (List Key × V)} (e : H a = some (.dT kvs)) : TyOf K H (.ref a) (.type "dict")
  | ins {a C dx : Addr} {fs : List (Str × V)} (e : H a = some (.ins C dx fs)) (cl : Cls K C) (ha : PySem.W.findIn K (.ref C) "__class__" = some (some (.builtin "object.__class__")))
      (hn : PySem.W.specialIn K (.builtin "object.__class__") "__get__" = some (some (.builtin "getset_descriptor.__get__"))) (htk : PySem.W.takesIn K (.builtin "object.__class__") = some true)
      (hm : PySem.W.mroIn K C (.type "object") = some true) : TyOf K H (.ref a) (.ref C)
/-- isinstance(x, c) for one class c, a built-in or an own one: kitOne's answer -/
theorem isinst_ok {x : V} {u t : Value} (I : Inv X pins σ H s) (rx : RelV x u) (ty : TyOf X.K H x t) (e : PySem.W.kitOne X.K t c = some b) (h : ∀ tk, Q (.bool b) { s with toks := tk }) :
    wpAny (model X.prog X.w) A (call (.builtin "isinstance") [u, c]) Q E s := by
  cases ty with
  | non => cases (show u = Value.none from rx); exact PySem.W.kia_one PySem.W.kitx_none I.kIn True.intro e (fun z => nomatch z) h
  | bl y => cases (show u = Value.bool y from rx); exact PySem.W.kia_one PySem.W.kitx_bool I.kIn True.intro e (fun z => nomatch z) h
  | int i => obtain ⟨t, q⟩ := (show ∃ t, u = Value.int i t from rx); cases q; exact PySem.W.kia_one PySem.W.kitx_int I.kIn True.intro e (fun z => nomatch z) h
  | str y => obtain ⟨t, q⟩ := (show ∃ t, u = Value.str y t from rx); cases q; exact PySem.W.kia_one PySem.W.kitx_str I.kIn True.intro e (fun z => nomatch z) h
  | flt y => obtain ⟨t, q⟩ := (show ∃ t, u = Value.float y t from rx); cases q; exact PySem.W.kia_one PySem.W.kitx_float I.kIn True.intro e (fun z => nomatch z) h
  | @lst a xs ea =>
    cases (show u = Value.ref a from rx)
    obtain ⟨_, _, n, _, h1⟩ := (show ObjOk X.prog X.w H s.heap a (.lst xs) from I.hok a _ ea)
    exact PySem.W.kia_one PySem.W.kitx_list I.kIn ⟨_, h1, rfl⟩ e (fun z => nomatch z) h
  | @frz a ob xs ea =>
    cases (show u = Value.ref a from rx)
    obtain ⟨_, _, _, n, _, h1⟩ := (show ObjOk X.prog X.w H s.heap a (.frz ob (.lst xs)) from I.hok a _ ea)
    exact PySem.W.kia_one PySem.W.kitx_list I.kIn ⟨_, h1, rfl⟩ e (fun z => nomatch z) h
  | @tup a xs ea =>
    cases (show u = Value.ref a from rx)
    obtain ⟨_, _, _, p⟩ := (show ObjOk X.prog X.w H s.heap a (.tup xs) from I.hok a _ ea)
    obtain ⟨o, h1, h2, _⟩ := p
    exact PySem.W.kia_one PySem.W.kitx_tuple I.kIn ⟨o, h1, h2⟩ e (fun z => nomatch z) h
  | @dK a kvs ea =>
    cases (show u = Value.ref a from rx)
    obtain ⟨_, _, vs, _, p⟩ := (show ObjOk X.prog X.w H s.heap a (.dK kvs) from I.hok a _ ea)
    obtain ⟨o, es, ep, h1, h2, _⟩ := p
    exact PySem.W.kia_one PySem.W.kitx_dict I.kIn ⟨o, h1, h2.1⟩ e (fun z => nomatch z) h
  | @dT a kvs ea =>
    cases (show u = Value.ref a from rx)
    obtain ⟨_, _, xs, _, o, es, ep, h1, h2, _⟩ := (show ObjOk X.prog X.w H s.heap a (.dT kvs) from I.hok a _ ea)
    exact PySem.W.kia_one PySem.W.kitx_dict I.kIn ⟨o, h1, h2.1⟩ e (fun z => nomatch z) h
  | @ins a C dx fs ea cl ha hn htk hm =>
    cases (show u = Value.ref a from rx)
    obtain ⟨mA, O, _⟩ := ins_get I.hok ea
    obtain ⟨od, J, _⟩ := O.look
    exact PySem.W.kia_one (PySem.W.kitx_own (cl.get _) cl.hd ha hn htk hm) I.kIn J e (fun z => nomatch z) h
end
end L2

namespace L2
open PySem PySem.Spec PyProof.Rows

/-! ### room -/
structure Room (k : Nat) (A : Around) : Prop where
  hd : A.handled = none
  dp : A.depth + 3 * k + 5 < recursionLimit
  un : A.units + 16 * k + 200 < cLine
theorem Room.mono {j k : Nat} {A : Around} (r : Room k A) (h : j ≤ k) : Room j A := ⟨r.hd, by have := r.dp; omega, by have := r.un; omega⟩
theorem Room.deeper {k : Nat} {A : Around} (r : Room (k + 1) A) (env : Env) : Room k (A.deeper env) :=
  ⟨r.hd, by have := r.dp; show A.depth + 1 + 3 * k + 5 < _; omega, by have := r.un; show A.units + 3 + 16 * k + 200 < _; omega⟩
theorem Room.in1 {k : Nat} {A : Around} (r : Room (k + 1) A) : Room k A.in1 :=
  ⟨r.hd, by have := r.dp; show A.depth + 3 * k + 5 < _; omega, by have := r.un; show A.units + 1 + 16 * k + 200 < _; omega⟩
theorem Room.depth {k : Nat} {A : Around} (r : Room k A) : A.depth < recursionLimit := by have := r.dp; omega
theorem Room.units {k : Nat} {A : Around} (r : Room k A) : A.units + 64 < cLine := by have := r.un; omega
/-! ### argument lists and displays -/
def tNil : TA := fun _ H Q => Q [] H
def tCons (ta : TE) (tr : TA) : TA := fun σ H Q => ta σ H fun x H1 => tr σ H1 fun xs H2 => Q (x :: xs) H2
section
variable {X : Cx} {e : Expr} {es : List Expr} {te : TE} {t : TA} {pos : Pos}
theorem pa_nil : PA X [] tNil := fun _ _ _ _ H Q I h => Calls.spliced_nil ⟨[], H, I, .nil, h⟩
theorem pa_cons (ha : PE X e te) (hr : PA X es t) (hs : starEach (e :: es) X.env = (false, eval e X.env) :: starEach es X.env := by rfl) : PA X (e :: es) (tCons te t) := by
  intro pos pins s σ H Q I h
  rw [hs]
  show wpAny _ _ (spliced ((false, eval e X.env) :: backTo pos (starEach es X.env))) _ _ s
  refine Calls.spliced_cons (thn (ha pins s σ H _ I h) fun u s1 ⟨x, H1, I1, r1, q1⟩ => ?_)
  exact thn (hr pos pins s1 σ H1 _ I1 q1) fun us s2 ⟨xs, H2, I2, r2, q2⟩ => ⟨x :: xs, H2, I2, .cons r1 r2, q2⟩

def tLst (t : TA) : TE := fun σ H Q => t σ H fun xs H1 => xs.length ≤ sizeLine ∧ ∀ p, H1 p = none → Q (.ref p) (upd H1 p (.lst xs))
theorem pe_lst (h : PA X es t) : PE X (.List es pos) (tLst t) := by
  intro pins s σ H Q I hq
  refine wpAny_List_spliced (thn (h pos pins s σ H _ I hq) fun us s1 ⟨xs, H1, I1, r, z, q⟩ => ⟨by rw [← r.length]; exact z, ?_⟩)
  have hf : H1 s1.heap.objs.size = none := I1.hok.fresh (Nat.le_refl _)
  refine ⟨.ref s1.heap.objs.size, upd H1 s1.heap.objs.size (.lst xs), I1.laid (t' := s1.toks) (fun b u e => Heap.get?_push_of_some _ e) (Nat.le_refl _) ?_, rfl, q _ hf⟩
  exact ⟨z, us, 0, r, Heap.get?_push_size _ rfl⟩
end

/-! ### what a def promises -/
/-- a def's promise: the bound arguments in the parameters' order, the heap, the wanted end, the wanted exception -/
abbrev Sp := List V → Hp → VK → XK → Prop
/-- how an exception lies behind a call (file 08 gives it): the callers' frames, abstract heap and state ahead of the call, the wish, the exception, the state -/
abbrev CXT := List Env → Hp → Shared → XK → Value → Shared → Prop

/-- the state at a call -/
structure Env0 (P : Program) (w : World) (K : PySem.W.Frag) (mg : Str → Option Value) (base : Heap) (A : Around) (outer : List Env) (s : Shared) (H : Hp) : Prop where
  frames : A.frames = some outer
  mod : Mod K mg base
  bs : ∀ b o, base.get? b = some o → s.heap.get? b = some o ∧ H b = none
  bsz : base.objs.size ≤ s.heap.objs.size
  funs : s.heap.FunFrames base outer
  frf : ∀ b ∈ frs outer, H b = none
  hok : HOk P w H s.heap
  bare : AllBare s.gens
/-- a call's end -/
def CE (outer : List Env) (P : Program) (w : World) (H : Hp) (s : Shared) (Q : VK) (u : Value) (s' : Shared) : Prop :=
  ∃ v H', s'.os = s.os ∧ AllBare s'.gens ∧ Un (frs outer) [] H H' s.heap s'.heap ∧ HOk P w H' s'.heap ∧ RelV v u ∧ Q v H'
def CR (CX : CXT) (outer : List Env) (P : Program) (w : World) (H : Hp) (s : Shared) (Q : VK) (E : XK) (r : Result) (s' : Shared) : Prop :=
  match r with
  | .ok (.ret u) => CE outer P w H s Q u s'
  | .ok _ => False
  | .error e => CX outer H s E e s'
structure FnOk (P : Program) (w : World) (K : PySem.W.Frag) (mg : Str → Option Value) (base : Heap) (CX : CXT) (k : Nat) (f : Addr) (fd : FuncData) (ps : List Str) (sp : Sp) : Prop where
  len : ∀ vs H Q E, sp vs H Q E → vs.length = ps.length
  run : ∀ (A : Around) (outer : List Env) (s : Shared) (H : Hp) (args : Args) (us : List Value) (vs : List V) (Q : VK) (E : XK), Room k A → Env0 P w K mg base A outer s H → BindsTo s fd args (ps.zip us) → Vals vs us → sp vs H Q E →
    codeAny (model P w) A (.call (.ref f) args) (CR CX outer P w H s Q E) s
theorem FnOk.mono {P : Program} {w : World} {K : PySem.W.Frag} {mg : Str → Option Value} {base : Heap} {CX : CXT} {j k : Nat} {f : Addr} {fd : FuncData} {ps : List Str} {sp : Sp} (F : FnOk P w K mg base CX j f fd ps sp) (h : j ≤ k) :
    FnOk P w K mg base CX k f fd ps sp := ⟨F.len, fun A outer s H args us vs Q E hr => F.run A outer s H args us vs Q E (hr.mono h)⟩
/-- a weaker promise -/
theorem FnOk.imp {P : Program} {w : World} {K : PySem.W.Frag} {mg : Str → Option Value} {base : Heap} {CX : CXT} {k : Nat} {f : Addr} {fd : FuncData} {ps : List Str} {sp sp' : Sp} (F : FnOk P w K mg base CX k f fd ps sp)
    (h : ∀ vs H Q E, sp' vs H Q E → sp vs H Q E) : FnOk P w K mg base CX k f fd ps sp' :=
  ⟨fun vs H Q E q => F.len vs H Q E (h _ _ _ _ q), fun A outer s H args us vs Q E hr he hb hv hs => F.run A outer s H args us vs Q E hr he hb hv (h _ _ _ _ hs)⟩

theorem Env0.in1 {P : Program} {w : World} {K : PySem.W.Frag} {mg : Str → Option Value} {base : Heap} {A : Around} {outer : List Env} {s : Shared} {H : Hp} (e : Env0 P w K mg base A outer s H) :
    Env0 P w K mg base A.in1 outer s H := ⟨e.frames, e.mod, e.bs, e.bsz, e.funs, e.frf, e.hok, e.bare⟩

section
variable {X : Cx} {pins : List (Addr × Obj)} {σ : St} {H : Hp} {s s' : Shared}
/-- from a body: what a callee wants -/
theorem Inv.env0 (I : Inv X pins σ H s) : Env0 X.prog X.w X.K X.mg X.base X.A X.stack s H :=
  ⟨I.ok.frames, I.ok.mod, I.bs, Nat.le_trans I.ok.bsz I.sz, I.stack, I.stkFree, I.hok, I.bare⟩
/-- behind a call -/
theorem Inv.after {Q : VK} {u : Value} (I : Inv X pins σ H s) (h : CE X.stack X.prog X.w H s Q u s') : EP X pins σ Q u s' := by
  obtain ⟨v, H', os, bare, un, hok, r, q⟩ := h
  obtain ⟨hh, g, d, t, os'⟩ := s'
  obtain rfl : os' = s.os := os
  exact ⟨v, H', I.call (h' := hh) (g' := g) (d' := d) (t' := t) (ch := []) un hok bare (fun b z => absurd z (by simp)), r, q⟩
end

/-! ### calls -/
/-- f(..): the written arguments, then the defaults dvs; E: what is wanted of an exception -/
def tCall (sp : Sp) (dvs : List V) (E : XK) (t : TA) : TE := fun σ H Q => t σ H fun vs H1 => sp (vs ++ dvs) H1 Q E
/-- how the parameters are bound: us the positional arguments, kw the keywords' values by name, ds the defaults that fill up -/
def Binds (K : PySem.W.Frag) (fd : FuncData) (ps : List Str) (ds : List Value) : Prop :=
  ∀ (s : Shared) (us : List Value), K.In s.heap → (us ++ ds).length = ps.length → BindsTo s fd ⟨us, []⟩ (ps.zip (us ++ ds))
/-- every parameter is given -/
theorem Binds.all {K : PySem.W.Frag} {fd : FuncData} {ps : List Str} (h : ∀ us : List Value, us.length = ps.length → bindArgs fd ⟨us, []⟩ = pure (ps.zip us)) : Binds K fd ps [] := fun s us _ hl => by
  rw [List.append_nil] at hl ⊢
  exact .of_eq (h us hl)

/-- an exception of a callee reaches what this body wants of exceptions -/
def Passes (CX : CXT) (X : Cx) (E : XK) : Prop := ∀ (pins : List (Addr × Obj)) (σ : St) (H : Hp) (s : Shared) (e : Value) (s' : Shared), Inv X pins σ H s → CX X.stack H s E e s' → X.xe e s'

section
variable {X : Cx} {CX : CXT} {k : Nat} {f C : Addr} {fd : FuncData} {ps : List Str} {sp : Sp} {dvs : List V} {ds : List Value} {E : XK} {x m : Str} {p pos apos : Pos} {e o : Expr} {es : List Expr} {ta : TE} {t : TA}

/-- the callee runs -/
theorem run_fn {pins : List (Addr × Obj)} {σ : St} {H : Hp} {s : Shared} {Q : VK} {us : List Value} {vs : List V} (F : FnOk X.prog X.w X.K X.mg X.base CX k f fd ps sp) (hr : Room k X.A) (hb : Binds X.K fd ps ds) (hd : Vals dvs ds) (hx : Passes CX X E)
    (I : Inv X pins σ H s) (r : Vals vs us) (h : sp (vs ++ dvs) H Q E) : wpAny (model X.prog X.w) X.A (call (.ref f) us) (EP X pins σ Q) X.xe s := by
  have r2 : Vals (vs ++ dvs) (us ++ ds) := r.append hd
  have hl : (us ++ ds).length = ps.length := by rw [← r2.length]; exact F.len _ _ _ _ h
  refine wpAny_call (codeAny_mono (F.run X.A X.stack s H ⟨us, []⟩ (us ++ ds) (vs ++ dvs) Q E hr I.env0 (hb s us I.kIn hl) r2 h) fun r s' hq => ?_)
  cases r with
  | error e => exact hx pins σ H s e s' I hq
  | ok fl =>
    cases fl with
    | ret u => exact I.after hq
    | next => exact False.elim hq
    | brk => exact False.elim hq
    | cont => exact False.elim hq

theorem pe_call (F : FnOk X.prog X.w X.K X.mg X.base CX k f fd ps sp) (hr : Room k X.A) (hg : Gl X x) (hm : X.mg x = some (.ref f)) (hk : PySem.W.keepIn X.K (.ref f) = true) (hb : Binds X.K fd ps ds) (hd : Vals dvs ds) (hx : Passes CX X E)
    (ha : PA X (e :: es) t) (hdb : (x == ("__debug__" : Str)) = false := by decide) (he : starEach (e :: es) X.env = (false, eval e X.env) :: starEach es X.env := by rfl) (hpl : (backTo pos (starEach es X.env)).any (·.1) = false := by rfl) :
    PE X (.Call (.Name x p) (e :: es) [] pos) (tCall sp dvs E t) := by
  intro pins s σ H Q I h
  refine wpAny_Call_Name_kw (ld_glob I hg hm ?_ hdb)
  refine PySem.W.callWith_K (h₀ := X.base) I.ok.mod.kin hk (thn (ha pos pins s σ H _ I h) fun us s1 ⟨vs, H1, I1, r, q⟩ => ⟨I1.kIn, ?_⟩) he hpl
  exact run_fn F hr hb hd hx I1 r q
end

/-! ### keywords -/
section
variable {X : Cx} {CX : CXT} {k : Nat} {f C : Addr} {fd : FuncData} {ps ks : List Str} {sp : Sp} {E : XK} {x m : Str} {p pos apos kpos : Pos} {e o : Expr} {es : List Expr} {kws : List Keyword} {te ta : TE} {t tk : TA} {nm : Option Str}
variable {g : List Value → List Value → List Value} {gV : List V → List V → List V}
end

/-! ### a def's body keeps its promise -/
/-- names: the parameters first -/
structure FnScope (N P : List Str) (sc : Scope) : Prop where
  kind : sc.kind = .function
  co : sc.isCoroutine = false
  gen : sc.isGenerator = false
  nd : N.Nodup
  pre : N.take P.length = P
  par : ∀ x ∈ P, sc.names.lookup x = some .local ∨ sc.names.lookup x = some .cell
  nofree : ∀ y ∈ sc.names, y.2 ≠ .free

theorem bindL_out {kindOf : Str → Option NameKind} {x : Str} : ∀ {binds : List (Str × Value)} {m : Str → Option Value}, (∀ v, (x, v) ∉ binds) → bindL kindOf binds m x = m x
  | [], _, _ => rfl
  | (n, v) :: r, m, h => by
    unfold bindL
    rw [bindL_out fun w hw => h w (List.mem_cons_of_mem _ hw)]
    split
    · have : x ≠ n := by rintro rfl; exact h v List.mem_cons_self
      simp [this]
    · rfl
theorem bindC_out {kindOf : Str → Option NameKind} {x : Str} : ∀ {binds : List (Str × Value)} {m : Str → Option Value}, (∀ v, (x, v) ∉ binds) → bindC kindOf binds m x = m x
  | [], _, _ => rfl
  | (n, v) :: r, m, h => by
    unfold bindC
    rw [bindC_out fun w hw => h w (List.mem_cons_of_mem _ hw)]
    split
    · rfl
    · have : x ≠ n := by rintro rfl; exact h v List.mem_cons_self
      simp [this]
theorem bindL_get {kindOf : Str → Option NameKind} {x : Str} {v : Value} : ∀ {P : List Str} {vs : List Value} {i : Nat} {m : Str → Option Value}, P.Nodup → P[i]? = some x → vs[i]? = some v → kindOf x = some .local →
    bindL kindOf (P.zip vs) m x = some v
  | [], _, _, _, _, h, _, _ => by simp at h
  | _ :: _, [], _, _, _, _, h, _ => by simp at h
  | p :: P, w :: vs, 0, m, nd, h1, h2, hk => by
    simp at h1 h2; subst h1; subst h2
    show bindL kindOf ((p, w) :: P.zip vs) m p = _
    unfold bindL
    rw [bindL_out fun v hv => (List.nodup_cons.mp nd).1 (List.of_mem_zip hv).1, if_pos hk]
    simp
  | p :: P, w :: vs, i + 1, m, nd, h1, h2, hk => by
    show bindL kindOf ((p, w) :: P.zip vs) m x = _
    unfold bindL
    exact bindL_get (i := i) (List.nodup_cons.mp nd).2 (by simpa using h1) (by simpa using h2) hk
theorem bindC_get {kindOf : Str → Option NameKind} {x : Str} {v : Value} : ∀ {P : List Str} {vs : List Value} {i : Nat} {m : Str → Option Value}, P.Nodup → P[i]? = some x → vs[i]? = some v → kindOf x ≠ some .local →
    bindC kindOf (P.zip vs) m x = some v
  | [], _, _, _, _, h, _, _ => by simp at h
  | _ :: _, [], _, _, _, _, h, _ => by simp at h
  | p :: P, w :: vs, 0, m, nd, h1, h2, hk => by
    simp at h1 h2; subst h1; subst h2
    show bindC kindOf ((p, w) :: P.zip vs) m p = _
    unfold bindC
    rw [bindC_out fun v hv => (List.nodup_cons.mp nd).1 (List.of_mem_zip hv).1, if_neg hk]
    simp
  | p :: P, w :: vs, i + 1, m, nd, h1, h2, hk => by
    show bindC kindOf ((p, w) :: P.zip vs) m x = _
    unfold bindC
    exact bindC_get (i := i) (List.nodup_cons.mp nd).2 (by simpa using h1) (by simpa using h2) hk

/-- the names' values at the entry -/
def start (N : List Str) (vs : List V) : St := vs.map some ++ List.replicate (N.length - vs.length) none

/-- the context of a def's body, at its entry; an exception leaves the frame, then lies as CX says -/
def cxOf (CX : CXT) (P : Program) (w : World) (K : PySem.W.Frag) (mg : Str → Option Value) (base : Heap) (N : List Str) (qual : Str) (scope : Scope) (f : Addr) (cd : Value) (A : Around) (outer : List Env) (s : Shared) (H : Hp) (E : XK) : Cx where
  prog := P
  w := w
  K := K
  mg := mg
  base := base
  A := A.deeper (envOfC qual scope s.heap.objs.size f cd)
  N := N
  s₀ := s
  H₀ := H
  env := envOfC qual scope s.heap.objs.size f cd
  outer := outer
  stack := envOfC qual scope s.heap.objs.size f cd :: outer
  ex := []
  calm := true
  fn := fun _ => true
  pn := []
  xe := fun e s' => wpAny (model P w) (A.deeper (envOfC qual scope s.heap.objs.size f cd)) (leaving (envOfC qual scope s.heap.objs.size f cd) e) (fun _ s'' => CX outer H s E e s'') (fun e' s'' => CX outer H s E e' s'') s'

theorem cell_has {sc : Scope} {n : Nat} {x : Str} (h : sc.names.lookup x = some .cell) : ∃ c, (cellsFrom n sc.names []).lookup x = some c := by
  have q := PySem.W.cellsFrom_some sc.names n [] (.inl h)
  exact Option.isSome_iff_exists.mp q

theorem inv_start {CX : CXT} {P : Program} {w : World} {K : PySem.W.Frag} {mg : Str → Option Value} {base : Heap} {N ps : List Str} {qual : Str} {scope : Scope} {f : Addr} {cd : Value} {A : Around} {outer : List Env} {s s1 : Shared} {H : Hp} {E : XK} {us : List Value} {vs : List V}
    (S : FnScope N ps scope) (hd : A.handled = none) (e0 : Env0 P w K mg base A outer s H) (hl : vs.length = ps.length) (r : Vals vs us)
    (x : InCallC s s.heap.objs.size (bindL (envOfC qual scope s.heap.objs.size f cd).kindOf (ps.zip us) fun _ => none) (cellsFrom (s.heap.objs.size + 1) scope.names []) (bindC (envOfC qual scope s.heap.objs.size f cd).kindOf (ps.zip us) fun _ => none) s1) :
    Inv (cxOf CX P w K mg base N qual scope f cd A outer s H E) [] (start N vs) H s1 := by
  have hpl : ps.length ≤ N.length := by have := congrArg List.length S.pre; rw [List.length_take] at this; omega
  obtain ⟨h1, tk, rfl, hk⟩ := x.done
  have noA : ∀ b : Addr, b ∉ (cxOf CX P w K mg base N qual scope f cd A outer s H E).ex := fun b z => absurd (show b ∈ ([] : List Addr) from z) (by simp)
  refine ⟨⟨e0.mod, S.kind, rfl, rfl, Nat.le_refl _, fun y z c h1 h2 => ?_, fun y hy => ?_, fun y c _ h => ?_, fun _ => hd, Around.frames_deeper e0.frames, .inr ⟨rfl, rfl⟩, fun b z => absurd z (noA b), e0.bs, e0.bsz, fun b _ _ => noA b, fun b z => absurd z (noA b), e0.funs, e0.frf⟩,
    rfl, e0.bare, Un.kept hk, ⟨_, x.toInCall.ns, fun i y v h1 h2 h3 => ?_⟩, fun y c h => ⟨_, x.cell y c h⟩, e0.hok.fresh (Nat.le_refl _), fun y c h => ?_, fun p hp => absurd (show p ∈ ([] : List (Addr × Obj)) from hp) (by simp), e0.hok.kept hk, ?_⟩
  · exact name_of_addr x.apart (PySem.mem_of_lookup h1) (PySem.mem_of_lookup h2)
  · have hy : scope.names.lookup y = some .cell ∨ scope.names.lookup y = some .free := hy
    rcases hy with hy | hy
    · exact cell_has hy
    · exact absurd rfl (S.nofree _ (PySem.mem_of_lookup hy))
  · exact Nat.le_of_lt (x.above y c (PySem.mem_of_lookup h))
  · have hi : i < vs.length := by
      unfold start at h2
      by_cases hi : i < vs.length
      · exact hi
      · rw [List.getElem?_append_right (by simpa using hi)] at h2
        rw [List.getElem?_replicate] at h2
        split at h2 <;> cases h2
    have ha : vs[i]? = some v := by
      unfold start at h2
      rw [List.getElem?_append_left (by simpa using hi), List.getElem?_map] at h2
      cases e : vs[i]? with
      | none => rw [e] at h2; cases h2
      | some a => rw [e] at h2; cases h2; rfl
    obtain ⟨u, hu, rv⟩ := r.get ha
    have hp : ps[i]? = some y := by
      rw [← S.pre, List.getElem?_take_of_lt (by omega)]; exact h1
    have ndP : ps.Nodup := by rw [← S.pre]; exact S.nd.sublist (List.take_sublist _ _)
    refine ⟨u, rv, ?_⟩
    rcases S.par y (List.mem_of_getElem? hp) with k | k
    · exact .inl ⟨k, bindL_get ndP hp hu k⟩
    · obtain ⟨c, e⟩ := cell_has (n := s.heap.objs.size + 1) k
      refine .inr ⟨.inl k, c, e, ?_⟩
      have q := x.cell y c e
      rw [bindC_get ndP hp hu (by show scope.names.lookup y ≠ _; rw [k]; decide)] at q
      exact q
  · exact e0.hok.fresh (Nat.le_of_lt (x.above y c (PySem.mem_of_lookup h)))
  · unfold start
    show _ = N.length
    rw [List.length_append, List.length_map, List.length_replicate]
    omega

/-- THE RULE: a def (or a method) of the text, by its body. The body's reading t is chosen for each entry; it is run at the parameters' values -/
theorem fn_of {CX : CXT} {P : Program} {w : World} {K : PySem.W.Frag} {mg : Str → Option Value} {base : Heap} {k : Nat} {f : Addr} {name qual : Str} {params : Arguments} {body : List Stmt} {scope : Scope} {dV kV doc pm cdv ct oc : Value} {an od : Option Addr}
    {osl : Array (Option Value)} {N ps : List Str} {sp : Sp} (lk : K.lookup f = some ⟨oc, od, .func (PySem.W.fnOf name qual params body scope dV kV doc pm an cdv ct), osl⟩) (hcd : PySem.W.codeIn K cdv qual = true) (S : FnScope N ps scope)
    (len : ∀ vs H Q E, sp vs H Q E → vs.length = ps.length)
    (hbody : ∀ (A : Around) (outer : List Env) (s : Shared) (H : Hp) (vs : List V) (Q : VK) (E : XK), Room k (A.deeper (envOfC qual scope s.heap.objs.size f cdv)) → sp vs H Q E →
      ∃ t, PSs (cxOf CX P w K mg base N qual scope f cdv A outer s H E) body t ∧ t { nx := fun _ H' => Q .non H', rt := Q } (start N vs) H) :
    FnOk P w K mg base CX (k + 1) f (PySem.W.fnOf name qual params body scope dV kV doc pm an cdv ct) ps sp := by
  refine ⟨len, fun A outer s H args us vs Q E hr e0 hb r hsp => ?_⟩
  have hl := len _ _ _ _ hsp
  have KX : K.In s.heap := e0.mod.kin.keeps fun b o e => (e0.bs b o e).1
  have lim : s.heap.NoLimit := e0.mod.nolimit.keeps fun b o e => (e0.bs b o e).1
  have hkind : ∀ y ∈ ps.zip us, scope.names.lookup y.1 = some .local ∨ (scope.names.lookup y.1 = some .cell ∧ ((cellsFrom (s.heap.objs.size + 1) scope.names []).lookup y.1).isSome = true) := fun ⟨n, v⟩ hy => by
    rcases S.par n (List.of_mem_zip hy).1 with q | q
    · exact .inl q
    · exact .inr ⟨q, PySem.W.cellsFrom_some _ _ _ (.inl q)⟩
  refine codeAny_call_function hr.depth (KX _ _ lk) rfl S.co S.gen rfl (PySem.W.codeRec_of KX hcd) (hb _ _ _ _ ?_)
  refine wpAny_newFunctionEnv_cells S.kind hkind fun env he s1 x => ?_
  subst he
  refine ⟨lim.keeps x.toInCall.keep, codeAny_func ?_⟩
  obtain ⟨t, ht, hq⟩ := hbody A outer s H vs Q E (hr.deeper _) hsp
  have I : Inv (cxOf CX P w K mg base N qual scope f cdv A outer s H E) [] (start N vs) H s1 := inv_start S hr.hd e0 hl r x
  refine wpAny_mono (ht [] s1 (start N vs) H _ I hq) (fun fl s' hs => ?_) fun e s' hs => hs
  have fin : ∀ {σ' : St} {H' : Hp} {v : V} {u : Value}, Inv (cxOf CX P w K mg base N qual scope f cdv A outer s H E) [] σ' H' s' → RelV v u → Q v H' → CE outer P w H s Q u s' :=
    fun {σ' H' v u} J rv q => ⟨v, H', J.os, J.bare, J.base, J.hok, rv, q⟩
  cases fl with
  | ret u =>
    obtain ⟨v, σ', H', J, rv, q⟩ := hs
    exact fin J rv q
  | next =>
    obtain ⟨σ', H', J, q⟩ := hs
    exact fin (v := V.non) (u := Value.none) J rfl q
  | brk =>
    obtain ⟨_, _, _, q⟩ := hs
    exact False.elim q
  | cont =>
    obtain ⟨_, _, _, q⟩ := hs
    exact False.elim q
end L2

namespace L2
open PySem PySem.Spec PyProof.Rows
section
variable {X : Cx} {x : Str} {p pos : Pos} {e : Expr} {es : List Expr} {t : TA} {id T : String} {r : List V → Hp → VK → Prop}

def tCB (r : List V → Hp → VK → Prop) (t : TA) : TE := fun σ H Q => t σ H fun vs H1 => r vs H1 Q
/-- f(e, ..), f a built-in function -/
theorem pe_callB (hc : CallR X (.builtin id) r) (hg : Gl X x) (hm : X.mg x = none) (hv : bootBuiltins x = some (.builtin id)) (ha : PA X (e :: es) t) (hn : x ≠ "__name__" := by decide) (hdb : (x == ("__debug__" : Str)) = false := by decide)
    (he : starEach (e :: es) X.env = (false, eval e X.env) :: starEach es X.env := by rfl) (hpl : (backTo pos (starEach es X.env)).any (·.1) = false := by rfl) : PE X (.Call (.Name x p) (e :: es) [] pos) (tCB r t) := by
  intro pins s σ H Q I h
  refine wpAny_Call_Name_kw (ld_blt I hg hm hv ?_ hn hdb)
  exact PyProof.Rows.callWith_builtin1 (thn (ha pos pins s σ H _ I h) fun us s1 ⟨vs, H1, I1, r1, q1⟩ => hc pins s1 σ H1 vs us Q I1 r1 q1) he hpl
/-- T(e, ..), T a built-in type -/
theorem pe_callTy (hc : CallR X (.type T) r) (hg : Gl X x) (hm : X.mg x = none) (hv : bootBuiltins x = some (.type T)) (ha : PA X (e :: es) t) (hn : x ≠ "__name__" := by decide) (hdb : (x == ("__debug__" : Str)) = false := by decide)
    (he : starEach (e :: es) X.env = (false, eval e X.env) :: starEach es X.env := by rfl) (hpl : (backTo pos (starEach es X.env)).any (·.1) = false := by rfl) : PE X (.Call (.Name x p) (e :: es) [] pos) (tCB r t) := by
  intro pins s σ H Q I h
  refine wpAny_Call_Name_kw (ld_blt I hg hm hv ?_ hn hdb)
  exact PyProof.Rows.callWith_type1 (thn (ha pos pins s σ H _ I h) fun us s1 ⟨vs, H1, I1, r1, q1⟩ => hc pins s1 σ H1 vs us Q I1 r1 q1) he hpl
end
end L2

namespace HT
open PySem PyProof.Rows

section
open PySem.SeqAt
open PySem.AutoSeq1 (wpAny_loadPart')
open PySem.MeetsSeq PySem.MeetsSeq2 PySem.MeetsSeq3

end

section
variable {prog : Program} {w : World} {A : Around} {E : Value → Shared → Prop} {s : Shared}

/-! ### t[a:b], not the whole -/
/-- a slice's bound as a place among n (d where it is left out) -/
def sIx (n d : Nat) : Option Int → Nat
  | none => d
  | some v => if v < 0 then (v + (n : Int)).toNat else min v.toNat n
theorem sIx_none (n d : Nat) : sIx n d none = d := rfl
theorem sIx_nat (n d k : Nat) : sIx n d (some (k : Int)) = min k n := by
  show (if (k : Int) < 0 then ((k : Int) + (n : Int)).toNat else min (k : Int).toNat n) = min k n
  rw [if_neg (by omega), Int.toNat_natCast]
end
end HT

namespace L2
open PySem PySem.Spec PyProof.Rows

/-! ### the parts of a slice -/
abbrev TO := St → Hp → (Option Int → Hp → Prop) → Prop
/-- a slice's part (left out, or an int) -/
def PO (X : Cx) (e : Option Expr) (t : TO) : Prop :=
  ∀ (pins : List (Addr × Obj)) (s : Shared) (σ : St) (H : Hp) (Q : Option Int → Hp → Prop), Inv X pins σ H s → t σ H Q →
    wpAny (model X.prog X.w) X.A (evalPart e X.env) (fun u s' => ∃ o H', Inv X pins σ H' s' ∧ IsPart u o ∧ Q o H') X.xe s
def tNoPart : TO := fun _ H Q => Q none H
def tPart (t : TE) : TO := fun σ H Q => t σ H fun x H1 => ∃ i, x = .int i ∧ Q (some i) H1

theorem intsAre_of {ns : List Int} : ∀ {us : List Value}, Vals (ns.map V.int) us → IntsAre us ns := by
  induction ns with
  | nil => intro us r; rw [List.map_nil] at r; cases r; exact .nil
  | cons n ns ih =>
    intro us r
    rw [List.map_cons] at r
    cases r with
    | cons r1 r2 =>
      obtain ⟨t, e⟩ := r1
      subst e
      exact .cons n t (ih r2)

section
variable {X : Cx} {e : Expr} {te : TE} {lo hi : Option Expr} {tl th : TO} {pos p2 : Pos}

theorem po_none : PO X none tNoPart := by
  intro pins s σ H Q I h
  rw [evalPart_none]
  exact wpAny_pure ⟨none, H, I, .none, h⟩
theorem po_some (h : PE X e te) : PO X (some e) (tPart te) := by
  intro pins s σ H Q I hw
  rw [evalPart_some]
  refine thn (h pins s σ H _ I hw) fun u s1 ⟨x, H1, I1, r1, q1⟩ => ?_
  obtain ⟨i, rfl, q⟩ := q1
  obtain ⟨t, rfl⟩ := r1
  exact ⟨some i, H1, I1, .int i t, q⟩

/-- what a slice of a value is, by values: the slice object stands at sl -/
def SlR (X : Cx) (r : V → Option Int → Option Int → Hp → VK → Prop) : Prop :=
  ∀ (pins : List (Addr × Obj)) (s : Shared) (σ : St) (H : Hp) (x : V) (v vl vu : Value) (lo hi : Option Int) (sl : Addr) (Q : VK), Inv X pins σ H s → RelV x v → s.heap.IsSliceOf sl vl vu .none → IsPart vl lo → IsPart vu hi → r x lo hi H Q →
    ∃ T id, typeLookup (.type T) "__getitem__" = pure (some (.builtin id)) ∧ s.TypeIs v T ∧ wpAny (model X.prog X.w) X.A (getItem v (.ref sl)) (EP X pins σ Q) X.xe s
theorem SlR.or {r r' : V → Option Int → Option Int → Hp → VK → Prop} (h : SlR X r) (h' : SlR X r') : SlR X (fun x lo hi H Q => r x lo hi H Q ∨ r' x lo hi H Q) := by
  intro pins s σ H x v vl vu lo hi sl Q I rx hs pl pu q
  rcases q with q | q
  · exact h pins s σ H x v vl vu lo hi sl Q I rx hs pl pu q
  · exact h' pins s σ H x v vl vu lo hi sl Q I rx hs pl pu q
def tSl (r : V → Option Int → Option Int → Hp → VK → Prop) (te : TE) (tl th : TO) : TE := fun σ H Q => te σ H fun x H1 => tl σ H1 fun l H2 => th σ H2 fun u H3 => r x l u H3 Q
/-- a[lo:hi], any a -/
theorem pe_slice {r : V → Option Int → Option Int → Hp → VK → Prop} (hr : SlR X r) (he : PE X e te) (hl : PO X lo tl) (hu : PO X hi th) : PE X (.Subscript e (.Slice lo hi none p2) pos) (tSl r te tl th) := by
  intro pins s σ H Q I h
  refine Subscript_ (thn (he pins s σ H _ I h) fun v s1 ⟨x, H1, I1, r1, q1⟩ => ?_)
  refine wpAny_Slice (thn (hl pins s1 σ H1 _ I1 q1) fun vl s2 ⟨l, H2, I2, pl, q2⟩ => thn (hu pins s2 σ H2 _ I2 q2) fun vu s3 ⟨u, H3, I3, pu, q3⟩ => ?_)
  rw [evalPart_none]
  refine wpAny_pure ?_
  have I4 : Inv X pins σ H3 { s3 with heap := s3.heap.push { cls := .type "slice", data := .fields #[vl, vu, .none] } } := I3.kept (t' := s3.toks) fun b ob q => Heap.get?_push_of_some _ q
  obtain ⟨T, id, hT, ht, hg⟩ := hr pins { s3 with heap := s3.heap.push { cls := .type "slice", data := .fields #[vl, vu, .none] } } σ H3 x v vl vu l u s3.heap.objs.size Q I4 r1 (Heap.IsSliceOf.new ..) pl pu q3
  show wpAny (model X.prog X.w) X.A (subscriptTail e (.Slice lo hi none p2) v (.ref s3.heap.objs.size)) (EP X pins σ Q) X.xe { s3 with heap := s3.heap.push { cls := .type "slice", data := .fields #[vl, vu, .none] } }
  exact tail_any (ops := [.ref s3.heap.objs.size, v]) ht hT hg (by with_unfolding_all rfl)

/-- the items of xs[lo:hi] -/
def cutV (xs : List V) (lo hi : Option Int) : List V := (xs.drop (HT.sIx xs.length 0 lo)).take (HT.sIx xs.length xs.length hi - HT.sIx xs.length 0 lo)
theorem cutV_length (xs : List V) (lo hi : Option Int) : (cutV xs lo hi).length ≤ xs.length := by
  unfold cutV
  rw [List.length_take, List.length_drop]
  omega
/-! ### t < u, t + u -/
end
end L2

namespace L2
open PySem PySem.Spec PyProof.Rows

/-! ### places -/
/-- the place that an index of any sign means -/
def ixN (n : Nat) (i : Int) : Option Nat := if 0 ≤ i then (if i < n then some i.toNat else none) else if -(n : Int) ≤ i then some (i + n).toNat else none
def atI {α : Type} (xs : List α) (i : Int) : Option α := (ixN xs.length i).bind fun j => xs[j]?
theorem ixN_seq {n : Nat} {i : Int} {j : Nat} (h : ixN n i = some j) : seqIndex? i n = some j ∧ j < n ∧ -(n : Int) ≤ i ∧ i < n := by
  unfold ixN at h
  by_cases h0 : 0 ≤ i
  · rw [if_pos h0] at h
    by_cases h1 : i < n
    · rw [if_pos h1] at h
      have e : i.toNat = j := Option.some.inj h
      exact ⟨by rw [seqIndex_of h0 h1, e], by omega, by omega, h1⟩
    · rw [if_neg h1] at h; cases h
  · rw [if_neg h0] at h
    by_cases h1 : -(n : Int) ≤ i
    · rw [if_pos h1] at h
      have e : (i + n).toNat = j := Option.some.inj h
      exact ⟨by rw [seqIndex_neg (by omega) h1, e], by omega, h1, by omega⟩
    · rw [if_neg h1] at h; cases h
theorem atI_get {α : Type} {xs : List α} {i : Int} {v : α} (h : atI xs i = some v) : ∃ j, seqIndex? i xs.length = some j ∧ xs[j]? = some v ∧ j < xs.length ∧ -(xs.length : Int) ≤ i ∧ i < xs.length := by
  unfold atI at h
  cases e : ixN xs.length i with
  | none => rw [e] at h; cases h
  | some j =>
    rw [e] at h
    obtain ⟨h1, h2, h3, h4⟩ := ixN_seq e
    exact ⟨j, h1, h, h2, h3, h4⟩
theorem atI_nat {α : Type} {xs : List α} {j : Nat} {v : α} (h : xs[j]? = some v) : atI xs (j : Int) = some v := by
  have hj : j < xs.length := (List.getElem?_eq_some_iff.mp h).1
  have e : ixN xs.length (j : Int) = some j := by
    unfold ixN
    rw [if_pos (by omega), if_pos (by omega)]; simp
  unfold atI; rw [e]; exact h
theorem atI_last {α : Type} (xs : List α) (v : α) : atI (xs ++ [v]) (-1) = some v := by
  have hl : (xs ++ [v]).length = xs.length + 1 := by simp
  have e : ixN (xs ++ [v]).length (-1) = some xs.length := by
    unfold ixN
    rw [hl, if_neg (by decide), if_pos (by omega)]
    congr 1
    omega
  unfold atI
  rw [e]
  show (xs ++ [v])[xs.length]? = some v
  simp

/-! ### what may be subscripted -/
/-- what stands as an index of a plain subscript -/
def PlainIx (b : Expr) : Prop := ∀ o i, subscripted b false o i = operate [o, i] (getItem o i)
/-- a subscript by values -/
def IxR (X : Cx) (r : R2) : Prop :=
  ∀ (value slice : Expr) (pins : List (Addr × Obj)) (s : Shared) (σ : St) (H : Hp) (x y : V) (v u : Value) (Q : VK), Inv X pins σ H s → RelV x v → RelV y u → r x y H Q →
    subscripted slice false v u = operate [v, u] (getItem v u) → wpAny (model X.prog X.w) X.A (subscriptTail value slice v u) (EP X pins σ Q) X.xe s
/-- a call of a builtin's method by values: the receiver, the arguments -/
def MtR (X : Cx) (id : String) (r : V → List V → Hp → VK → Prop) : Prop :=
  ∀ (pins : List (Addr × Obj)) (s : Shared) (σ : St) (H : Hp) (x : V) (xs : List V) (v : Value) (us : List Value) (Q : VK), Inv X pins σ H s → RelV x v → Vals xs us → r x xs H Q →
    wpAny (model X.prog X.w) X.A (call (.builtin id) (v :: us)) (EP X pins σ Q) X.xe s
section
variable {X : Cx} {a b : Expr} {ta tb : TE} {pos : Pos}
theorem IxR.or {r r' : R2} (h : IxR X r) (h' : IxR X r') : IxR X (fun x y H Q => r x y H Q ∨ r' x y H Q) := by
  intro value slice pins s σ H x y v u Q I rx ry q hs
  rcases q with q | q
  · exact h value slice pins s σ H x y v u Q I rx ry q hs
  · exact h' value slice pins s σ H x y v u Q I rx ry q hs
theorem MtR.or {id : String} {r r' : V → List V → Hp → VK → Prop} (h : MtR X id r) (h' : MtR X id r') : MtR X id (fun x xs H Q => r x xs H Q ∨ r' x xs H Q) := by
  intro pins s σ H x xs v us Q I rx rs q
  rcases q with q | q
  · exact h pins s σ H x xs v us Q I rx rs q
  · exact h' pins s σ H x xs v us Q I rx rs q
/-- a[b] -/
theorem pe_ix {r : R2} (hr : IxR X r) (ha : PE X a ta) (hb : PE X b tb) (hs : PlainIx b) : PE X (.Subscript a b pos) (tOp r ta tb) := by
  intro pins s σ H Q I h
  exact Subscript_ (binT ha hb I h fun v u s2 x y H2 I2 rx ry q => hr a b pins s2 σ H2 x y v u Q I2 rx ry q (hs _ _))

def rIxL (K : PySem.W.Frag) : R2 := fun x y H Q => ∃ p xs i v, x = .ref p ∧ y = .int i ∧ SqL K H p xs ∧ atI xs i = some v ∧ Q v H
theorem ix_list : IxR X (rIxL X.K) := by
  intro value slice pins s σ H x y v u Q I rx ry h hs
  obtain ⟨p, xs, i, z, rfl, rfl, hq, he, q⟩ := h
  cases rx
  obtain ⟨t, rfl⟩ := ry
  obtain ⟨its, r, pl, hz⟩ := I.list hq
  obtain ⟨j, h1, h2, h3, h4, h5⟩ := atI_get he
  obtain ⟨w, ew, rw'⟩ := r.get h2
  have hl := r.length
  have hn := line63
  have fin : EP X pins σ Q w s := ⟨z, H, I, rw', q⟩
  by_cases h0 : 0 ≤ i
  · have hj : i.toNat = j := by
      rw [seqIndex_of h0 h5] at h1
      exact Option.some.inj h1
    exact item_listR pl.isList h0 (by omega) (by rw [hj]; simpa using ew) fin hs
  · have hj : (i + (its.toArray.size : Int)).toNat = j := by
      rw [seqIndex_neg (by omega) h4] at h1
      rw [List.size_toArray, ← hl]
      exact Option.some.inj h1
    exact subscriptTail_builtinR (x := w) pl.isList.typeIs slot_list_getitem.lookup
      (wpAny_getItem_list_neg (Q := fun r s' => r = w ∧ EP X pins σ Q r s') pl.isList (by omega) (by rw [List.size_toArray] <;> omega) (by omega) (by rw [hj]; simpa using ew) ⟨rfl, fin⟩) hs
/-! ### xs[i] = v, any sign -/
/-- the list's object behind a store -/
theorem mapSeq_set (its : List Value) (n j : Nat) (u : Value) : Obj.mapSeq (·.setIfInBounds j u) { cls := .type "list", data := .seq its.toArray n } = { cls := .type "list", data := .seq (its.set j u).toArray n } := by
  simp [Obj.mapSeq]
theorem Inv.lst {pins : List (Addr × Obj)} {σ : St} {H : Hp} {s : Shared} {p : Addr} {xs : List V} (I : Inv X pins σ H s) (h : H p = some (.lst xs)) :
    ∃ (its : List Value) (n : Nat), Vals xs its ∧ s.heap.get? p = some { cls := .type "list", data := .seq its.toArray n } ∧ xs.length ≤ sizeLine := by
  obtain ⟨z, its, n, r, e⟩ := I.hok p _ h
  exact ⟨its, n, r, e, z⟩
/-- the list at p is written by an update of its object -/
theorem Inv.lstUpd {pins : List (Addr × Obj)} {σ : St} {H : Hp} {s : Shared} {p : Addr} {xs ys : List V} {its its' : List Value} {n n' : Nat} {f : Obj → Obj} (I : Inv X pins σ H s) (h : H p = some (.lst xs))
    (ho : s.heap.get? p = some { cls := .type "list", data := .seq its.toArray n }) (hf : f { cls := .type "list", data := .seq its.toArray n } = { cls := .type "list", data := .seq its'.toArray n' }) (r : Vals ys its') (hz : ys.length ≤ sizeLine) (t : Nat) :
    Inv X pins σ (upd H p (.lst ys)) { s with heap := s.heap.update p f, toks := t } := by
  have e : (s.heap.update p f).get? p = some { cls := .type "list", data := .seq its'.toArray n' } := by
    rw [Heap.get?_update_self f ho (by rw [hf] <;> rfl), hf]
  refine I.write (x := p) (e := p) (by rw [h]; trivial) (.inl rfl) (fun b u hb q => (Heap.get?_update_other _ _ (Ne.symm hb)).trans q) ⟨_, e⟩ ?_
  exact ⟨hz, its', n', r, e⟩
def rSetL : V → V → V → Hp → (Hp → Prop) → Prop := fun o i v H Q => ∃ p xs k j, o = .ref p ∧ i = .int k ∧ H p = some (.lst xs) ∧ ixN xs.length k = some j ∧ Q (upd H p (.lst (xs.set j v)))
theorem set_list : PSet X rSetL := by
  intro pins s σ H o i v ov iv u Q I ro ri rv h
  obtain ⟨p, xs, k, j, rfl, rfl, hp, hj, q⟩ := h
  cases ro
  obtain ⟨t, rfl⟩ := ri
  obtain ⟨its, n, r, ho, hz⟩ := I.lst hp
  obtain ⟨h1, h2, h3, h4⟩ := ixN_seq hj
  have hl := r.length
  have hn := line63
  have I' : Inv X pins σ (upd H p (.lst (xs.set j v))) { s with heap := s.heap.update p (Obj.mapSeq (·.setIfInBounds j u)) } :=
    I.lstUpd hp ho (mapSeq_set its n j u) (r.set rv j) (by rw [List.length_set]; exact hz) s.toks
  by_cases h0 : 0 ≤ k
  · have hk : k.toNat = j := by
      rw [seqIndex_of h0 h4] at h1
      exact Option.some.inj h1
    exact PySem.W.ki_setAt ho h0 (by omega) (by rw [List.size_toArray, ← hl]; exact h4) (by rw [hk]; exact ⟨_, I', q⟩)
  · have hk : (k + (its.toArray.size : Int)).toNat = j := by
      rw [seqIndex_neg (by omega) h3] at h1
      rw [List.size_toArray, ← hl]
      exact Option.some.inj h1
    exact PySem.W.ki_setBack ho (by omega) (by rw [List.size_toArray, ← hl]; exact h3) (by omega) (by rw [hk]; exact ⟨_, I', q⟩)

/-! ### slices -/
theorem slice_bounds (lo hi : Option Int) (n : Nat) : (sliceBounds lo hi none n).1 = ((HT.sIx n 0 lo : Nat) : Int) ∧ (sliceBounds lo hi none n).2.1 = ((HT.sIx n n hi : Nat) : Int) ∧ (sliceBounds lo hi none n).2.2 = 1 := by
  refine ⟨?_, ?_, rfl⟩
  · cases lo with
    | none => simp [sliceBounds, HT.sIx]
    | some i =>
      simp only [sliceBounds, HT.sIx, Option.getD_none, show (1 : Int) > 0 by decide, if_true]
      by_cases h : i < 0
      · simp only [h, if_true] <;> omega
      · simp only [h, if_false] <;> omega
  · cases hi with
    | none => simp [sliceBounds, HT.sIx]
    | some i =>
      simp only [sliceBounds, HT.sIx, Option.getD_none, show (1 : Int) > 0 by decide, if_true]
      by_cases h : i < 0
      · simp only [h, if_true] <;> omega
      · simp only [h, if_false] <;> omega
theorem slicePick_cut (its : List Value) (lo hi : Option Int) : slicePick its.toArray lo hi none = ((its.drop (HT.sIx its.length 0 lo)).take (HT.sIx its.length its.length hi - HT.sIx its.length 0 lo)).toArray := by
  obtain ⟨h1, h2, h3⟩ := slice_bounds lo hi its.toArray.size
  unfold slicePick
  rw [h1, h2, h3]
  simp only [sliceRange_one, pick_run, List.size_toArray] <;> rfl
/-- xs[lo:hi] of a list: a new list -/
def rSlL (K : PySem.W.Frag) : V → Option Int → Option Int → Hp → VK → Prop := fun x lo hi H Q => ∃ a xs, x = .ref a ∧ SqL K H a xs ∧ ∀ p, H p = none → Q (.ref p) (upd H p (.lst (cutV xs lo hi)))
theorem sl_list : SlR X (rSlL X.K) := by
  intro pins s σ H x v vl vu lo hi sl Q I rx hs pl pu h
  obtain ⟨a, xs, rfl, hx, q⟩ := h
  cases rx
  obtain ⟨its, r, ht, hz⟩ := I.list hx
  have hlen := r.length
  refine ⟨"list", _, slot_list_getitem.lookup, ht.isList.typeIs, ?_⟩
  refine wpAny_getItem_list_slice ht.isList hs pl pu .none (by simp) ?_ (by rw [List.size_toArray] <;> omega)
  rw [slicePick_cut, ← hlen]
  refine ⟨.ref s.heap.objs.size, _, I.laid (t' := s.toks) (o := .lst (cutV xs lo hi)) (fun b ob q => Heap.get?_push_of_some _ q) (Nat.le_refl _) ?_, rfl, q _ (I.hok.fresh (Nat.le_refl _))⟩
  exact ⟨Nat.le_trans (cutV_length xs lo hi) hz, _, 0, (r.drop (HT.sIx xs.length 0 lo)).take (HT.sIx xs.length xs.length hi - HT.sIx xs.length 0 lo), Heap.get?_push_size _ rfl⟩

/-! ### in, not in: flat items -/
def flatV : V → Bool
  | .non => true
  | .bl _ => true
  | .int _ => true
  | .str _ => true
  | _ => false
/-- == of flat values -/
def eqV : V → V → Bool
  | .non, .non => true
  | .bl a, .bl b => a == b
  | .bl a, .int b => (if a then 1 else 0) == b
  | .int a, .bl b => a == (if b then 1 else 0)
  | .int a, .int b => a == b
  | .str a, .str b => a == b
  | _, _ => false
theorem eqAt_V {A : Around} {s : Shared} {y x : V} {u v : Value} (ry : RelV y u) (rx : RelV x v) (fy : flatV y = true) (fx : flatV x = true) : SeqAt.EqAt A s u v (eqV y x) := by
  cases y with
  | non =>
    cases ry
    cases x with
    | non => cases rx; exact SeqAt.EqAt.same _
    | bl b => cases rx; exact SeqAt.EqAt.none_bool b
    | int b => obtain ⟨t, rfl⟩ := rx; exact SeqAt.EqAt.none_int b t
    | str b => obtain ⟨t, rfl⟩ := rx; exact SeqAt.EqAt.none_str b t
    | _ => exact absurd (show false = true from fx) Bool.false_ne_true
  | bl a =>
    cases ry
    cases x with
    | non => cases rx; exact SeqAt.EqAt.bool_none a
    | bl b => cases rx; exact SeqAt.EqAt.bool_bool a b
    | int b => obtain ⟨t, rfl⟩ := rx; exact SeqAt.EqAt.bool_int a b t
    | str b => obtain ⟨t, rfl⟩ := rx; exact SeqAt.EqAt.bool_str a b t
    | _ => exact absurd (show false = true from fx) Bool.false_ne_true
  | int a =>
    obtain ⟨t', rfl⟩ := ry
    cases x with
    | non => cases rx; exact SeqAt.EqAt.int_none a t'
    | bl b => cases rx; exact SeqAt.EqAt.int_bool a t' b
    | int b => obtain ⟨t, rfl⟩ := rx; exact SeqAt.EqAt.int_int a t' b t
    | str b => obtain ⟨t, rfl⟩ := rx; exact SeqAt.EqAt.int_str a t' b t
    | _ => exact absurd (show false = true from fx) Bool.false_ne_true
  | str a =>
    obtain ⟨t', rfl⟩ := ry
    cases x with
    | non => cases rx; exact SeqAt.EqAt.str_none a t'
    | bl b => cases rx; exact SeqAt.EqAt.str_bool a t' b
    | int b => obtain ⟨t, rfl⟩ := rx; exact SeqAt.EqAt.str_int a t' b t
    | str b => obtain ⟨t, rfl⟩ := rx; exact SeqAt.EqAt.str_str a t' b t
    | _ => exact absurd (show false = true from fx) Bool.false_ne_true
  | _ => exact absurd (show false = true from fy) Bool.false_ne_true
/-- the items' answers, read off the values (a value's own answer does not lean on its token) -/
def eqU (x : V) (u : Value) : Bool := match u with
  | .none => eqV .non x
  | .bool b => eqV (.bl b) x
  | .int i _ => eqV (.int i) x
  | .str z _ => eqV (.str z) x
  | _ => false
theorem eqU_of {x y : V} {u : Value} (r : RelV y u) (f : flatV y = true) : eqU x u = eqV y x := by
  cases y with
  | non => cases r; rfl
  | bl b => cases r; rfl
  | int i => obtain ⟨t, rfl⟩ := r; rfl
  | str z => obtain ⟨t, rfl⟩ := r; rfl
  | _ => exact absurd (show false = true from f) Bool.false_ne_true
theorem any_eqU {x : V} : ∀ {xs : List V} {us : List Value}, Vals xs us → xs.all flatV = true → us.any (eqU x) = xs.any fun y => eqV y x
  | _, _, .nil, _ => rfl
  | y :: xs, u :: us, .cons r t, f => by
    rw [List.all_cons, Bool.and_eq_true] at f
    rw [List.any_cons, List.any_cons, eqU_of r f.1, any_eqU t f.2]
theorem mem_eqAt {A : Around} {s : Shared} {x : V} {v : Value} (rx : RelV x v) (fx : flatV x = true) : ∀ {xs : List V} {us : List Value}, Vals xs us → xs.all flatV = true → ∀ u ∈ us, SeqAt.EqAt A s u v (eqU x u)
  | _, _, .nil, _ => fun u hu => by cases hu
  | y :: xs, u :: us, .cons r t, f => fun u' hu => by
    rw [List.all_cons, Bool.and_eq_true] at f
    rcases List.mem_cons.mp hu with rfl | hu
    · rw [eqU_of r f.1]; exact eqAt_V r rx f.1 fx
    · exact mem_eqAt rx fx t f.2 u' hu
def inV (x : V) (xs : List V) : Bool := xs.any fun y => eqV y x
/-- x in a list or tuple of flat items -/
def rIn (K : PySem.W.Frag) (neg : Bool) : R2 := fun x y H Q => ∃ p xs, y = .ref p ∧ (SqL K H p xs ∨ SqT K H p xs) ∧ flatV x = true ∧ xs.all flatV = true ∧ Q (.bl (if neg then !inV x xs else inV x xs)) H
theorem op_notIn_seq : OpR X (compareOp .NotIn) (rIn X.K true) := by
  intro pins s σ H x y v u Q I rx ry h
  obtain ⟨p, xs, rfl, hq, fx, fs, q⟩ := h
  cases ry
  rcases hq with hq | hq
  · obtain ⟨its, r, pl, hz⟩ := I.list hq
    refine SeqAt.notIn_listAt (eqU x) pl.isList (fun w hw => mem_eqAt rx fx r fs w (by simpa using hw)) ⟨.bl _, H, I, rfl, ?_⟩
    rw [show its.toArray.any (eqU x) = its.any (eqU x) by simp, any_eqU r fs]
    exact q
  · obtain ⟨its, r, pl, hz⟩ := I.tuple hq
    refine SeqAt.notIn_tupleAt (eqU x) pl (fun w hw => mem_eqAt rx fx r fs w (by simpa using hw)) ⟨.bl _, H, I, rfl, ?_⟩
    rw [show its.toArray.any (eqU x) = its.any (eqU x) by simp, any_eqU r fs]
    exact q
/-! ### len, list(x), tuple(x) of any list or tuple that is read -/
theorem call_len_seq : CallR X (.builtin "len") (fun xs H Q => ∃ p ys, xs = [.ref p] ∧ (SqL X.K H p ys ∨ SqT X.K H p ys) ∧ Q (.int ys.length) H) := by
  intro pins s σ H xs us Q I r h
  obtain ⟨p, ys, rfl, hq, q⟩ := h
  obtain ⟨u, rfl, rx⟩ := vals1 r
  cases rx
  have hn := line63
  rcases hq with hq | hq
  · obtain ⟨its, r', pl, hz⟩ := I.list hq
    have hlen := r'.length
    exact Calls.call_len_list pl.isList (by simp only [List.size_toArray] <;> omega) ⟨.int ys.length, H, I.tok _, ⟨s.toks + 1, by rw [List.size_toArray, hlen]⟩, q⟩
  · obtain ⟨its, r', pl, hz⟩ := I.tuple hq
    have hlen := r'.length
    exact len_tuple pl (by simp only [List.size_toArray] <;> omega) ⟨.int ys.length, H, I.tok _, ⟨s.toks + 1, by rw [List.size_toArray, hlen]⟩, q⟩
theorem CallR.or {f : Value} {r r' : List V → Hp → VK → Prop} (h : CallR X f r) (h' : CallR X f r') : CallR X f (fun xs H Q => r xs H Q ∨ r' xs H Q) := by
  intro pins s σ H xs us Q I rs q
  rcases q with q | q
  · exact h pins s σ H xs us Q I rs q
  · exact h' pins s σ H xs us Q I rs q
theorem call_list_of : CallR X (.type "list") (fun xs H Q => ∃ p ys, xs = [.ref p] ∧ (SqL X.K H p ys ∨ SqT X.K H p ys) ∧ ∀ l, H l = none → Q (.ref l) (upd H l (.lst ys))) := by
  intro pins s σ H xs us Q I r h
  obtain ⟨p, ys, rfl, hq, q⟩ := h
  obtain ⟨u, rfl, rx⟩ := vals1 r
  cases rx
  have fin : ∀ (its : List Value), Vals ys its → ys.length ≤ sizeLine → ∀ (h' : Heap) (c' : Nat), (∀ b o', s.heap.get? b = some o' → h'.get? b = some o') →
      h'.get? s.heap.objs.size = some { cls := .type "list", dict := none, data := .seq its.toArray c', slots := #[] } → EP X pins σ Q (.ref s.heap.objs.size) { s with heap := h' } := fun its r' hz h' c' kp e =>
    ⟨.ref s.heap.objs.size, _, I.laid (t' := s.toks) kp (Nat.le_refl _) (show ObjOk X.prog X.w _ h' _ (.lst ys) from ⟨hz, its, c', r', e⟩), rfl, q _ (I.hok.fresh (Nat.le_refl _))⟩
  rcases hq with hq | hq
  · obtain ⟨its, r', pl, hz⟩ := I.list hq
    have hlen := r'.length
    obtain ⟨o, ho, hc, n, hd⟩ := pl.isList
    exact call_list_seq p (.inl rfl) ho hc hd (fun h' c' kp e => fin its r' hz h' c' kp e) (by simp only [List.size_toArray] <;> omega)
  · obtain ⟨its, r', pl, hz⟩ := I.tuple hq
    have hlen := r'.length
    obtain ⟨o, ho, hc, n, hd⟩ := pl
    exact call_list_seq p (.inr rfl) ho hc hd (fun h' c' kp e => fin its r' hz h' c' kp e) (by simp only [List.size_toArray] <;> omega)
/-! ### the call of a builtin's method: o.m(..) -/
/-- the value is of that builtin type -/
def tyV (K : PySem.W.Frag) (T : String) (x : V) (H : Hp) : Prop := match x with
  | .str _ => T = "str"
  | .int _ => T = "int"
  | .ref p => (T = "list" ∧ ∃ xs, SqL K H p xs) ∨ (T = "tuple" ∧ ∃ o, K.lookup p = some o ∧ o.cls = .type "tuple" ∧ o.dict = none) ∨
      (T = "dict" ∧ ((∃ kvs, H p = some (.dK kvs)) ∨ ∃ kvs, H p = some (.dT kvs))) ∨ (T = "set" ∧ ∃ S n, H p = some (.set S n))
  | _ => False
theorem tyV_is {pins : List (Addr × Obj)} {σ : St} {H : Hp} {s : Shared} {T : String} {x : V} {v : Value} (I : Inv X pins σ H s) (r : RelV x v) (ty : tyV X.K T x H) :
    s.TypeIs v T ∧ ∀ a, v = .ref a → ∃ ob, s.heap.get? a = some ob ∧ ob.dict = none := by
  cases x with
  | str z =>
    obtain ⟨t, rfl⟩ := r
    cases (show T = "str" from ty)
    exact ⟨typeIs_str s z t, fun _ e => nomatch e⟩
  | int i =>
    obtain ⟨t, rfl⟩ := r
    cases (show T = "int" from ty)
    exact ⟨typeIs_int s i t, fun _ e => nomatch e⟩
  | ref p =>
    cases r
    rcases ty with ⟨rfl, xs, hq⟩ | ⟨rfl, o, hk, hc, hd⟩ | ⟨rfl, hk⟩ | ⟨rfl, S, n, hk⟩
    · obtain ⟨its, _, pl, _⟩ := I.list hq
      refine ⟨pl.isList.typeIs, fun a e => ?_⟩
      cases e
      obtain ⟨o, n, e, c, hd, _⟩ := pl
      exact ⟨o, e, hd⟩
    · refine ⟨⟨o, I.kIn p o hk, hc⟩, fun a e => ?_⟩
      cases e
      exact ⟨o, I.kIn _ o hk, hd⟩
    · have z : ∃ o, s.heap.get? p = some o ∧ o.ExactDict := by
        rcases hk with ⟨kvs, hk⟩ | ⟨kvs, hk⟩
        · obtain ⟨_, _, _, _, o, _, _, e, ex, _⟩ := I.hok p _ hk
          exact ⟨o, e, ex⟩
        · obtain ⟨_, _, _, _, o, _, _, e, ex, _⟩ := I.hok p _ hk
          exact ⟨o, e, ex⟩
      obtain ⟨o, e, ex⟩ := z
      refine ⟨⟨o, e, ex.1⟩, fun a e2 => ?_⟩
      cases e2
      exact ⟨o, e, ex.2.1⟩
    · obtain ⟨o, _, _, _, e, ex, _⟩ := I.hok p _ hk
      refine ⟨⟨o, e, ex.1⟩, fun a e2 => ?_⟩
      cases e2
      exact ⟨o, e, ex.2.1⟩
  | _ => exact False.elim ty
def tBM (K : PySem.W.Frag) (T : String) (r : V → List V → Hp → VK → Prop) (to : TE) (t : TA) : TE := fun σ H Q => to σ H fun x H1 => tyV K T x H1 ∧ t σ H1 fun xs H2 => r x xs H2 Q
variable {o e : Expr} {es : List Expr} {to : TE} {t : TA} {name : Str} {apos cpos : Pos} {T id : String} {r : V → List V → Hp → VK → Prop}
theorem pe_bm (pa : PlainAttrs T) (slot : Slot T name id) (hty : typeOf (.builtin id) = pure (.type "method_descriptor")) (hm : MtR X id r) (ho : PE X o to) (ha : PA X (e :: es) t)
    (hbase : attributeBase o name X.env (eval o X.env) = eval o X.env := by rfl)
    (hfew : ((backTo cpos (starEach (e :: es) X.env)).all (fun x => !x.1) && (backToKw cpos (keywordEach [] X.env)).all (fun x => x.1.isSome)
      && decide ((e :: es).length + ([] : List Keyword).length + (if ([] : List Keyword).isEmpty then 0 else 1) < 30)) = true := by rfl)
    (hline : (apos.endLine == cpos.line) = true := by rfl) (hs : starEach (e :: es) X.env = (false, eval e X.env) :: starEach es X.env := by rfl) (hplain : (backTo cpos (starEach es X.env)).any (·.1) = false := by rfl) :
    PE X (.Call (.Attribute o name apos) (e :: es) [] cpos) (tBM X.K T r to t) := by
  intro pins s σ H Q I h
  refine wpAny_Call_method_late hbase hfew hline rfl (thn (ho pins s σ H _ I h) fun v s1 ⟨x, H1, I1, r1, ty, q1⟩ => ?_)
  obtain ⟨h1, h2⟩ := tyV_is I1 r1 ty
  refine ⟨T, id, pa, slot, hty, h1, h2, ?_⟩
  have hA := ha cpos pins s1 σ H1 _ I1 q1
  rw [hs] at hA ⊢
  refine Calls.callWith_builtin (by show (false || (backTo cpos (starEach es X.env)).any (·.1)) = false; rw [hplain] <;> rfl) (Calls.evalArgs_plain ?_)
  exact thn hA fun us s2 ⟨vs, H2, I2, r2, q2⟩ => hm pins s2 σ H2 x vs v us Q I2 r1 r2 q2
/- xs.append(e), list.index on a module's tuple .. are MtR facts of 06m -/
end
end L2

namespace L2
open PySem PySem.Spec PyProof.Rows

def MtM (X : Cx) (id : String) (r : V → List V → Hp → VK → Prop) : Prop :=
  ∀ (pins : List (Addr × Obj)) (s : Shared) (σ : St) (H : Hp) (x : V) (xs : List V) (v : Value) (us : List Value) (Q : VK), Inv X pins σ H s → RelV x v → Vals xs us → r x xs H Q →
    wpAny (model X.prog X.w) X.A (call (.builtin id) (v :: us)) (EP X pins σ Q) X.xe s

/-! ### lists of values -/
theorem Vals.one : ∀ {x : V} {us : List Value}, Vals [x] us → ∃ u, us = [u] ∧ RelV x u
  | _, _, .cons r .nil => ⟨_, rfl, r⟩
theorem Vals.two : ∀ {x y : V} {us : List Value}, Vals [x, y] us → ∃ u v, us = [u, v] ∧ RelV x u ∧ RelV y v
  | _, _, _, .cons r (.cons q .nil) => ⟨_, _, rfl, r, q⟩
theorem Vals.zero : ∀ {us : List Value}, Vals [] us → us = []
  | _, .nil => rfl
theorem Vals.dropLast {xs : List V} {us : List Value} (h : Vals xs us) : Vals xs.dropLast us.dropLast := by
  induction h with
  | nil => exact .nil
  | cons r t ih =>
    cases t with
    | nil => exact .nil
    | cons q t' => exact .cons r ih
theorem Vals.eraseIdx : ∀ {xs : List V} {us : List Value} (i : Nat), Vals xs us → Vals (xs.eraseIdx i) (us.eraseIdx i)
  | _, _, _, .nil => .nil
  | _, _, 0, .cons _ t => t
  | _, _, i + 1, .cons r t => .cons r (Vals.eraseIdx i t)
theorem Vals.reverse {xs : List V} {us : List Value} (h : Vals xs us) : Vals xs.reverse us.reverse := by
  induction h with
  | nil => exact .nil
  | cons r t ih => rw [List.reverse_cons, List.reverse_cons]; exact Vals.append ih (.cons r .nil)
theorem Vals.rep {xs : List V} {us : List Value} (h : Vals xs us) : ∀ k : Nat, Vals (List.replicate k xs).flatten (List.replicate k us).flatten
  | 0 => .nil
  | k + 1 => by
    rw [List.replicate_succ, List.replicate_succ, List.flatten_cons, List.flatten_cons]
    exact Vals.append h (Vals.rep h k)
theorem len_erase {α : Type} : ∀ (l : List α) (i : Nat), (l.eraseIdx i).length ≤ l.length
  | [], _ => Nat.le_refl _
  | _ :: _, 0 => Nat.le_succ _
  | _ :: r, i + 1 => Nat.succ_le_succ (len_erase r i)
theorem foldl_rep (its : List Value) : ∀ (k : Nat) (acc : List Value),
    List.foldl (fun x1 x2 => x1 ++ x2) acc.toArray (List.replicate k its.toArray) = (acc ++ (List.replicate k its).flatten).toArray
  | 0, acc => by simp
  | k + 1, acc => by
    have e : acc.toArray ++ its.toArray = (acc ++ its).toArray := by simp
    have e2 : (acc ++ its) ++ (List.replicate k its).flatten = acc ++ (List.replicate (k + 1) its).flatten := by
      rw [List.replicate_succ, List.flatten_cons, List.append_assoc]
    rw [← e2, ← foldl_rep its k (acc ++ its), ← e, List.replicate_succ, List.foldl_cons]

section
variable {X : Cx} {pins : List (Addr × Obj)} {σ : St} {H : Hp} {s : Shared} {l b : Addr} {xs ys zs : List V}

/-! ### the two steps: a tracked list is rewritten, a new list is laid -/
theorem Inv.lset {its its' : List Value} {n : Nat} {f : Array Value → Array Value} {t' : Nat} (I : Inv X pins σ H s) (hH : H l = some (.lst xs))
    (e : s.heap.get? l = some { cls := .type "list", data := .seq its.toArray n }) (hf : f its.toArray = its'.toArray) (hv : Vals ys its') (hz : ys.length ≤ sizeLine) :
    Inv X pins σ (upd H l (.lst ys)) { s with heap := s.heap.update l (Obj.mapSeq f), toks := t' } := by
  have q := PySem.IsL.update e f
  rw [hf] at q
  refine I.write (x := l) (e := l) (by rw [hH]; exact trivial) (.inl rfl) (fun b' u hb hu => (Heap.get?_update_other s.heap (Obj.mapSeq f) (Ne.symm hb)).trans hu) ⟨_, q⟩ ?_
  exact ⟨hz, its', _, hv, q⟩
theorem Inv.lnew {its : List Value} {t' : Nat} (I : Inv X pins σ H s) (hv : Vals ys its) (hz : ys.length ≤ sizeLine) :
    Inv X pins σ (upd H s.heap.objs.size (.lst ys)) { s with heap := s.heap.push { cls := .type "list", data := .seq its.toArray }, toks := t' } :=
  I.laid (fun _ _ q => Heap.get?_push_of_some _ q) (Nat.le_refl _) ⟨hz, its, 0, hv, Heap.get?_push_size _ rfl⟩
theorem Inv.fresh (I : Inv X pins σ H s) : H s.heap.objs.size = none := I.hok.fresh (Nat.le_refl _)
theorem Inv.lstM (I : Inv X pins σ H s) (hH : H l = some (.lst xs)) : xs.length ≤ sizeLine ∧ ∃ (its : List Value) (n : Nat), Vals xs its ∧ xs.length = its.length ∧ s.heap.get? l = some { cls := .type "list", data := .seq its.toArray n } := by
  obtain ⟨z, its, n, r, e⟩ := I.hok l _ hH
  exact ⟨z, its, n, r, r.length, e⟩

theorem notLongL {n : Nat} (h : n ≤ sizeLine) : Builtin.List.listTooLong n = false := by
  unfold Builtin.List.listTooLong
  exact decide_eq_false (by omega)
end

section
variable {X : Cx}

/-! ### methods -/
def rAppend : V → List V → Hp → VK → Prop := fun x vs H Q => ∃ l xs y, x = .ref l ∧ vs = [y] ∧ H l = some (.lst xs) ∧ xs.length < sizeLine ∧ Q .non (upd H l (.lst (xs ++ [y])))
theorem mt_append : MtM X "list.append" rAppend := by
  intro pins s σ H x vs v us Q I rx rv h
  obtain ⟨l, xs, y, rfl, rfl, hH, hz, q⟩ := h
  cases rx
  obtain ⟨u, rfl, ru⟩ := rv.one
  obtain ⟨z, its, n, r, hl, e⟩ := I.lstM hH
  refine call_meets F.slot_list_append ⟨_, e, rfl⟩ F.entry_list_append (F.args_list_append_2 _ _) (PySem.list_append l its.toArray n u (by rw [List.size_toArray]; omega)) ⟨e, ?_⟩
  refine ⟨.non, _, I.lset (its' := its ++ [u]) hH e (by simp) (r.append (.cons ru .nil)) ?_, rfl, q⟩
  rw [List.length_append, List.length_singleton]
  omega

def rExtend : V → List V → Hp → VK → Prop := fun x vs H Q => ∃ l b xs zs, x = .ref l ∧ vs = [.ref b] ∧ H l = some (.lst xs) ∧ H b = some (.lst zs) ∧ xs.length + zs.length ≤ sizeLine ∧ Q .non (upd H l (.lst (xs ++ zs)))
theorem mt_extend : MtM X "list.extend" rExtend := by
  intro pins s σ H x vs v us Q I rx rv h
  obtain ⟨l, b, xs, zs, rfl, rfl, hH, hB, hz, q⟩ := h
  cases rx
  obtain ⟨u, rfl, ru⟩ := rv.one
  cases ru
  obtain ⟨z, its, n, r, hl, e⟩ := I.lstM hH
  obtain ⟨z2, its2, n2, r2, hl2, e2⟩ := I.lstM hB
  have hsz : its.toArray.size + its2.toArray.size ≤ sizeLine := by rw [List.size_toArray, List.size_toArray]; omega
  have hlong : ¬ (!its.toArray.isEmpty && Builtin.List.listTooLong (its.toArray.size + its2.toArray.size)) = true := by
    rw [notLongL hsz, Bool.and_false]
    exact Bool.false_ne_true
  refine call_meets F.slot_list_extend ⟨_, e, rfl⟩ F.entry_list_extend (F.args_list_extend_2 _ _)
    (AutoSeq1.list_extend_list_list_0 l its.toArray n b its2.toArray n2 hlong (by rw [List.size_toArray]; omega) (by omega)) ⟨e, e2, ?_⟩
  refine ⟨.non, _, I.lset (its' := its ++ its2) hH e (by simp) (r.append r2) ?_, rfl, q⟩
  rw [List.length_append]
  omega

def rPopAt : V → List V → Hp → VK → Prop := fun x vs H Q => ∃ l xs i k y, x = .ref l ∧ vs = [.int i] ∧ H l = some (.lst xs) ∧ -(2 ^ 63) ≤ i ∧ i < 2 ^ 63 ∧ seqIndex? i xs.length = some k ∧ xs[k]? = some y ∧ Q y (upd H l (.lst (xs.eraseIdx k)))
theorem mt_popAt : MtM X "list.pop" rPopAt := by
  intro pins s σ H x vs v us Q I rx rv h
  obtain ⟨l, xs, i, k, y, rfl, rfl, hH, h1, h2, hk, hy, q⟩ := h
  cases rx
  obtain ⟨u, rfl, ru⟩ := rv.one
  obtain ⟨t, rfl⟩ := ru
  obtain ⟨z, its, n, r, hl, e⟩ := I.lstM hH
  obtain ⟨w, hw, rw'⟩ := r.get hy
  refine call_meets F.slot_list_pop ⟨_, e, rfl⟩ F.entry_list_pop (F.args_list_pop_2 _ _)
    (MeetsSeq.list_pop_at l its.toArray n i t k w (fitsIndex_both h1 h2) (by rw [List.size_toArray, ← hl]; exact hk) (by rw [← Array.getElem?_toList]; exact hw) (by rw [List.size_toArray]; omega)) ⟨e, ?_⟩
  refine ⟨y, _, I.lset (its' := its.eraseIdx k) hH e ?_ (r.eraseIdx k) ?_, rw', q⟩
  · show its.toArray.eraseIdxIfInBounds k = (its.eraseIdx k).toArray
    rw [List.eraseIdxIfInBounds_toArray]
  · have := len_erase xs k
    omega

/-! ### list + list, list += list, list * int -/
def rCat : R2 := fun x y H Q => ∃ l b xs zs, x = .ref l ∧ y = .ref b ∧ H l = some (.lst xs) ∧ H b = some (.lst zs) ∧ xs.length + zs.length ≤ sizeLine ∧ ∀ p, H p = none → Q (.ref p) (upd H p (.lst (xs ++ zs)))
theorem op_cat : OpR X (binaryOp .Add) rCat := by
  intro pins s σ H x y v u Q I rx ry h
  obtain ⟨l, b, xs, zs, rfl, rfl, hH, hB, hz, q⟩ := h
  cases rx
  cases ry
  obtain ⟨z, its, n, r, hl, e⟩ := I.lstM hH
  obtain ⟨z2, its2, n2, r2, hl2, e2⟩ := I.lstM hB
  refine PySem.P.add_list e e2 ?_ (by rw [List.size_toArray, List.size_toArray]; omega)
  have ea : its.toArray ++ its2.toArray = (its ++ its2).toArray := by simp
  rw [ea]
  exact ⟨.ref _, _, I.lnew (t' := s.toks) (r.append r2) (by rw [List.length_append]; omega), rfl, q _ I.fresh⟩
/-- a list times an int (a negative one is nothing) -/
def rRep : R2 := fun x y H Q => ∃ l k xs, x = .ref l ∧ y = .int k ∧ H l = some (.lst xs) ∧ -(2 ^ 63) ≤ k ∧ k < 2 ^ 63 ∧ xs.length * k.toNat ≤ sizeLine ∧
  ∀ p, H p = none → Q (.ref p) (upd H p (.lst (List.replicate k.toNat xs).flatten))
theorem len_rep {α : Type} (xs : List α) (k : Nat) : (List.replicate k xs).flatten.length = k * xs.length := by
  induction k with
  | zero => simp
  | succ k ih => rw [List.replicate_succ, List.flatten_cons, List.length_append, ih, Nat.succ_mul, Nat.add_comm]
theorem op_rep : OpR X (binaryOp .Mult) rRep := by
  intro pins s σ H x y v u Q I rx ry h
  obtain ⟨l, k, xs, rfl, rfl, hH, h1, h2, hz, q⟩ := h
  cases rx
  obtain ⟨t, rfl⟩ := ry
  obtain ⟨z, its, n, r, hl, e⟩ := I.lstM hH
  have hlen : its.toArray.size * k.toNat ≤ sizeLine := by rw [List.size_toArray, ← hl]; exact hz
  have hcap : ¬ its.toArray.size * k.toNat > (2 ^ 63 - 1) / 8 := by
    have : (sizeLine : Nat) ≤ (2 ^ 63 - 1) / 8 := by decide
    omega
  have hfit : ¬ (!Builtin.List.listFitsIndex k) = true := by
    rw [fitsIndex_both h1 h2]
    exact Bool.false_ne_true
  have hlong : ¬ Builtin.List.listTooLong (its.toArray.size * k.toNat) = true := by
    rw [notLongL hlen]
    exact Bool.false_ne_true
  have hnew : List.foldl (fun x1 x2 => x1 ++ x2) #[] (List.replicate (if its.toArray.isEmpty = true then 0 else k.toNat) its.toArray) = (List.replicate k.toNat its).flatten.toArray := by
    have f0 : ∀ m : Nat, List.foldl (fun x1 x2 => x1 ++ x2) #[] (List.replicate m its.toArray) = (List.replicate m its).flatten.toArray := fun m => by
      have := foldl_rep its m []
      rw [List.nil_append] at this
      exact this
    rw [f0]
    cases its with
    | nil => simp
    | cons a r' => rw [if_neg (by simp)]
  refine wpAny_binaryOp_repeat_ref (T := "list") (U := "int") (by decide) ⟨_, e, rfl⟩ (fun s' => typeIs_int s' k t) noFill_list_mul F.fills_int_mul F.slot_int_rmul repeat_list F.slot_int_index.lookup
    (call_meets F.slot_int_rmul (typeIs_int s k t) F.entry_int_rmul (F.args_int_rmul_2 _ _) (int___rmul___int_list k t l its.toArray n)
      ⟨e, rfl, ⟨_, e, rfl⟩, call_meets F.slot_list_mul ⟨_, e, rfl⟩ F.entry_list_mul (F.args_list_mul_2 _ _) (AutoListH.list___mul___list_int_3 l its.toArray n k t hfit hcap hlong) ⟨e, ?_⟩⟩)
  rw [hnew]
  exact ⟨.ref _, _, I.lnew (t' := s.toks) (r.rep k.toNat) (by rw [len_rep, Nat.mul_comm]; exact hz), rfl, q _ I.fresh⟩

/-! ### del xs[i] -/
end

/-! ### xs[a:b] = ys -/
section
variable {prog : Program} {w : World} {A : Around} {E : Value → Shared → Prop} {s : Shared}
end

section
variable {X : Cx}
end
end L2

namespace Att
open PySem PySem.W PySem.Calls PyProof.Rows

/-! ### the script -/
theorem ints_of_wellAll {P : Params} {h : Heap} : ∀ (ns : List Int) (vs : List Value), WellAll P h vs (ns.map WData.int) → IntsAre vs ns := by
  intro ns
  induction ns with
  | nil =>
    intro vs w
    rw [List.map_nil] at w
    cases w
    exact .nil
  | cons n ns ih =>
    intro vs w
    rw [List.map_cons] at w
    cases w with
    | cons a b =>
      cases a
      exact .cons _ _ (ih _ b)

theorem script_of {l : OpenLaw} {n : Nat} (hn : l.most = some n) {P : Params} {h : Heap} {args : List WData} {vals : List Value}
    (hpre : l.row.toRowW.claim.pre args = true) (hwl : WellAll P h vals args) :
    ∃ a vs ns, vals = [Value.ref a] ∧ args = [WData.list (ns.map WData.int)] ∧ h.get? a = some { cls := .type "list", data := .seq vs.toArray } ∧ IntsAre vs ns ∧ ns.length ≤ n := by
  have hsh : WShape.hasAll [] args [.list .int] = true := (pre_splitW hpre).1
  have hc : l.pre.holds [] { args := args } = true := (pre_splitW hpre).2
  obtain ⟨d, r, rfl, h1, h2⟩ := hasAllW_cons hsh
  obtain rfl := hasAllW_nil h2
  obtain ⟨xs, rfl, h3⟩ := hasW_list h1
  obtain ⟨ns, rfl⟩ := items_int h3
  have hlen : ns.length ≤ n := by
    unfold OpenLaw.pre at hc
    have h4 : (WTm.not (.lt (.lit (.int (n : Int))) (.len (.arg 0)))).holds [] { args := [.list (ns.map .int)] } = true := by
      have h4 := (holds_andW hc).1
      rw [hn] at h4
      exact h4
    have h5 := condW_of h4 (w_not (w_lt w_lit (w_len_list (w_arg rfl))))
    rw [List.length_map] at h5
    refine Nat.le_of_not_lt fun q => ?_
    have q' : (n : Int) < ((ns.length : Nat) : Int) := by omega
    first
      | (rw [decide_eq_true q'] at h5; exact absurd h5 (by decide))
      | (simp at h5; omega)
  cases hwl with
  | cons w1 w2 =>
    cases w2
    cases w1 with
    | list ho hall => exact ⟨_, _, ns, rfl, rfl, ho, ints_of_wellAll ns _ hall, hlen⟩

theorem post_true (l : OpenLaw) (args : List WData) : l.row.toRowW.claim.post args (.bool true) args = true :=
  postW_of (r := l.row.toRowW) (X := (true == true))
    (show WShape.has [] (.bool true) .bool = true by first | rfl | decide | simp [WShape.has, WShape.arms, WShape.armsAll])
    (show (WTm.eq .res (.lit (.bool true))).value [] { args := args, res := some (.bool true), after := args } = some (.bool (true == true)) from w_eq_bool (w_res rfl) w_lit) rfl

/-! ### the attachment: holds_open's last premise (the goal 'hc' behind k_head) from a wpAny of the law's body -/
/-- the same from a codeAny of the CALL (for a layer whose function contracts speak of calls) -/
theorem attach_call {l : OpenLaw} {n : Nat} {q : Program} {loose : List Str} {XP : (Str → Option Value) → Heap → Prop} {YP : World → Heap → Prop} {d : DefRec}
    (hn : l.most = some n) (hdf : d.params.defaults = [])
    (call : ∀ (w : World) (s₀ s₁ : Shared) (mg mb : Str → Option Value) (fa : Addr) (o : Obj) (pm cd doc : Value) (a : Addr) (vs : List Value) (ns : List Int),
      Ground q loose [] XP w s₀ mg mb s₁.heap → YP w s₁.heap →
      s₁.heap.get? fa = some o → o.data = .func (docDef d.name d.params d.body d.scope pm cd doc) → s₁.heap.CodeRec cd d.name → mg d.name = some (.ref fa) →
      s₁.heap.get? a = some { cls := .type "list", data := .seq vs.toArray } → IntsAre vs ns → ns.length ≤ n → s₁.gens = #[] →
      codeAny (model l.prog w) callerA (.call (.ref fa) ⟨[.ref a], []⟩) (fun r s' => r = .ok (.ret (.bool true)) ∧ OldK s₁.heap s'.heap ∧ s'.os = s₁.os ∧ AllBare s'.gens) s₁) :
    WalkO q loose XP YP l.row.toRowW d [] (fun f vs => PySem.call f vs) := by
  intro w s₀ s₁ mg mb G Y fa o pm cd doc dV kV ho hd hcd hD hmg hg args vals as hpre hlay hrd hwl hlo
  obtain rfl : dV = .none := Dflts.none hD hdf
  obtain rfl : kV = .none := Dflts.noKw hD
  obtain ⟨a, vs, ns, rfl, rfl, hobj, hints, hlen⟩ := script_of hn hpre hwl
  refine enter_call (codeAny_mono (call w s₀ s₁ mg mb fa o pm cd doc a vs ns G Y ho (fd_plain hd) hcd hmg hobj hints hlen hg) fun r s' hq => ?_)
  obtain ⟨rfl, h2, h3, h4⟩ := hq
  exact ⟨.inl ⟨.bool true, .bool true, [], rfl, fun _ => rfl, .bool true, post_true l _, fun _ => ⟨List.Pairwise.nil, fun _ hm => (nomatch hm)⟩⟩, h2, h3, h4⟩

/-! ### rules over ANY heap (no ledger) from facts about the written part K: the library's own take a ledger (News) for what they write -/
section
variable {prog : Program} {w : World} {A : Around} {E : Value → Shared → Prop} {s : Shared} {K : Frag}

/-! the whole heap as the ledger: makes every rule that writes through a ledger a rule over any heap -/
def ledger (h : Heap) (L d : Addr) : List (Addr × Obj) := (List.range h.objs.size).filterMap fun a => if a = L ∨ a = d then none else (h.get? a).map fun o => (a, o)
end
end Att

namespace L2
open PySem PySem.Spec PyProof.Rows

theorem vals_ints : ∀ {vs : List Value} {ns : List Int}, IntsAre vs ns → Vals (ns.map V.int) vs
  | _, _, .nil => .nil
  | _, _, .cons n t h => .cons ⟨t, rfl⟩ (vals_ints h)

/-- nothing is tracked but the script, known to the object (or it is an object of the module) -/
def Only (H : Hp) : Prop := ∀ b, H b = none ∨ ∃ o xs, H b = some (.frz o (.lst xs))

/-- THE HEAD: the law's promise, at the heap behind the top. F, the promise of the law's def, may use that base is part of the heap (so K.In base, base.Ns mainGlobals mg stand in Mod) -/
theorem law_call {P : Program} {w : World} {K : PySem.W.Frag} {mg mb : Str → Option Value} {CX : CXT} {k : Nat} {fa a : Addr} {fd : FuncData} {x : Str} {sp : Sp} {s₁ : Shared} {vs : List Value} {ns : List Int}
    (KX : K.In s₁.heap) (hns : s₁.heap.Ns mainGlobals mg) (hb : s₁.heap.Ns builtinsNs mb) (hbb : ∀ x : Str, x ≠ "__name__" → mb x = bootBuiltins x) (hlim : s₁.heap.NoLimit) (hg : s₁.gens = #[])
    (ha : s₁.heap.get? a = some { cls := .type "list", data := .seq vs.toArray }) (hi : IntsAre vs ns) (hl : ns.length ≤ sizeLine) (hr : Room k callerA)
    (F : ∀ base : Heap, K.In base → base.Ns mainGlobals mg → FnOk P w K mg base CX k fa fd [x] sp) (hbind : ∀ (s : Shared) (u : Value), BindsTo s fd ⟨[u], []⟩ [(x, u)])
    (hsp : ∀ H : Hp, Only H → SqL K H a (ns.map V.int) → sp [.ref a] H (fun v _ => v = .bl true) fun _ _ _ => False)
    (hCX : ∀ H e s', CX [] H s₁ (fun _ _ _ => False) e s' → False) :
    codeAny (model P w) callerA (.call (.ref fa) ⟨[.ref a], []⟩) (fun r s' => r = .ok (.ret (.bool true)) ∧ OldK s₁.heap s'.heap ∧ s'.os = s₁.os ∧ AllBare s'.gens) s₁ := by
  have rv := vals_ints hi
  have lenV := hi.length
  -- from an abstract heap in which nothing but the script may be tracked
  have core : ∀ H : Hp, Only H → SqL K H a (ns.map V.int) → HOk P w H s₁.heap → (∀ b, H b ≠ none → b = a) → (H a ≠ none → K.lookup a = none) →
      codeAny (model P w) callerA (.call (.ref fa) ⟨[.ref a], []⟩) (fun r s' => r = .ok (.ret (.bool true)) ∧ OldK s₁.heap s'.heap ∧ s'.os = s₁.os ∧ AllBare s'.gens) s₁ := by
    intro H hO hS hok hA hK
    have base_of : ∀ {b : Addr} {o : Obj}, s₁.heap.get? b = some o → H b = none → (hidT s₁.heap H).get? b = some o := fun e n => hidT_get e n
    have noA : ∀ {b : Addr} {o : Obj} {es : Array DictEntry} {ep : Nat}, s₁.heap.get? b = some o → o.data = .dict es ep → H b = none := fun {b o es ep} e d => by
      cases q : H b with
      | none => rfl
      | some u =>
        have e' : b = a := hA b (by rw [q]; simp)
        subst e'
        rw [ha] at e; cases e
        have d' : Data.seq vs.toArray _ = Data.dict es ep := d
        cases d'
    have nsK : ∀ {b : Addr} {m : Str → Option Value}, s₁.heap.Ns b m → (hidT s₁.heap H).Ns b m := fun {b m} ⟨o, es, ep, e, d, r⟩ => ⟨o, es, ep, base_of e (noA e d), d, r⟩
    have hKb : K.In (hidT s₁.heap H) := fun b o e => base_of (KX b o e) (by
      cases q : H b with
      | none => rfl
      | some u =>
        have e' : b = a := hA b (by rw [q]; simp)
        subst e'
        rw [hK (by rw [q]; simp)] at e; cases e)
    have hM : Mod K mg (hidT s₁.heap H) := ⟨hKb, nsK hns, ⟨mb, nsK hb, hbb⟩, let ⟨mc, h1, h2⟩ := hlim; ⟨mc, nsK h1, h2⟩⟩
    have e0 : Env0 P w K mg (hidT s₁.heap H) callerA [] s₁ H := ⟨rfl, hM, fun b o e => of_hidT e, Nat.le_of_eq (hidT_size _ _), trivial, fun b hb => absurd (show b ∈ ([] : List Addr) from hb) (by simp), hok, .of_eq hg⟩
    refine codeAny_mono ((F _ hKb (nsK hns)).run callerA [] s₁ H ⟨[.ref a], []⟩ [.ref a] [.ref a] _ _ hr e0 (hbind s₁ (.ref a)) (.cons rfl .nil) (hsp H hO hS)) fun r s' h => ?_
    cases r with
    | error e => exact (hCX H e s' h).elim
    | ok fl =>
      cases fl with
      | next => exact False.elim h
      | brk => exact False.elim h
      | cont => exact False.elim h
      | ret u =>
        obtain ⟨v, H', os, bare, un, hok', r', q⟩ := h
        have q' : v = .bl true := q
        subst q'
        obtain rfl : u = Value.bool true := r'
        refine ⟨rfl, OldK.of_keep fun b o e => ?_, os, bare⟩
        cases q : H b with
        | none => exact un.keep b o e q (by intro z; exact absurd (show b ∈ ([] : List Addr) from z) (by simp)) (by simp)
        | some u =>
          rcases hO b with z | ⟨ob, xs, z⟩
          · rw [q] at z; cases z
          · have z2 := un.frzs b ob _ z
            obtain ⟨e1, _⟩ := hok b _ z
            obtain ⟨e2, _⟩ := hok' b _ z2
            rw [e] at e1; cases e1
            exact e2
  cases hk : K.lookup a with
  | some o =>
    -- the script is one of the module's own objects
    have e := KX a o hk
    rw [ha] at e
    cases e
    refine core (fun _ => none) (fun _ => .inl rfl) (.inr ⟨_, vs.toArray, _, hk, rfl, rfl, rfl, by rw [List.size_toArray, lenV]; exact hl, by simpa using rv⟩) (fun b u z => by have z' : (none : Option HO) = some u := z; cases z') (fun b z => absurd rfl z) fun z => absurd rfl z
  | none =>
    refine core (fun b => if b = a then some (.frz { cls := .type "list", data := .seq vs.toArray } (.lst (ns.map V.int))) else none) (fun b => ?_) (.inl (.inr ⟨{ cls := .type "list", data := .seq vs.toArray }, if_pos rfl⟩)) (fun b u z => ?_) (fun b z => ?_) fun _ => hk
    · by_cases hb : b = a
      · exact .inr ⟨_, _, if_pos hb⟩
      · exact .inl (if_neg hb)
    · by_cases hb : b = a
      · have z' := (if_pos hb).symm.trans z
        cases z'
        subst hb
        exact ⟨ha, by rw [List.length_map]; exact hl, vs, _, rv, ha⟩
      · have z' := (if_neg hb).symm.trans z
        cases z'
    · by_cases hb : b = a
      · exact hb
      · exact absurd (if_neg hb) z
end L2

namespace L2
open PySem PySem.Spec PyProof.Rows

abbrev KOf {K : PySem.W.Frag} {h : Heap} (_ : K.In h) : PySem.W.Frag := K

/-- the goal that k_head leaves (case hc), from the law's promise. F gives the function object fd (K's own) once, then the promise over every base -/
theorem walk_of {l : PySem.W.OpenLaw} {n k : Nat} {q : Program} {loose : List Str} {XP : (Str → Option Value) → Heap → Prop} {YP : World → Heap → Prop} {d : DefRec} {K : Params → PySem.W.Frag} {CX : World → CXT} {sp : World → Sp} {x : Str}
    (hn : l.most = some n) (hn2 : n ≤ sizeLine) (hdf : d.params.defaults = []) (hr : Room k callerA)
    (hY : ∀ (w : World) (h : Heap), YP w h → (K w.params).In h)
    (F : ∀ (w : World) (mg : Str → Option Value) (fa : Addr) (h : Heap), (K w.params).In h → h.Ns mainGlobals mg → mg d.name = some (.ref fa) →
      ∃ fd : FuncData, (∀ (s : Shared) (u : Value), BindsTo s fd ⟨[u], []⟩ [(x, u)]) ∧
        ∀ base : Heap, (K w.params).In base → base.Ns mainGlobals mg → FnOk l.prog w (K w.params) mg base (CX w) k fa fd [x] (sp w))
    (hsp : ∀ (w : World) (H : Hp) (a : Addr) (ns : List Int), ns.length ≤ n → Only H → SqL (K w.params) H a (ns.map V.int) → sp w [.ref a] H (fun v _ => v = .bl true) fun _ _ _ => False)
    (hCX : ∀ (w : World) (H : Hp) (s : Shared) (e : Value) (s' : Shared), CX w [] H s (fun _ _ _ => False) e s' → False) :
    PySem.W.WalkO q loose XP YP l.row.toRowW d [] (fun f vs => PySem.call f vs) := by
  refine Att.attach_call hn hdf fun w s₀ s₁ mg mb fa o pm cd doc a vs ns G Y ho hd hcd hmg hobj hints hlen hg => ?_
  have KX := hY w _ Y
  obtain ⟨fd, hb, hF⟩ := F w mg fa _ KX G.T.g hmg
  exact law_call KX G.T.g G.T.b G.T.builtins G.T.nolimit hg hobj hints (Nat.le_trans hlen hn2) hr hF hb (fun H hO hS => hsp w H a ns hlen hO hS) fun H e s' => hCX w H s₁ e s'
end L2

/-! SHORT WORDS over the layer: a def of the text, its body, what a loop and a test want. -/
namespace L2
open PySem PySem.Spec PyProof.Rows

/-! ### the text by places -/
def defArgs (s : Stmt) : Arguments := match s with
  | .FunctionDef _ a _ _ _ _ _ _ _ _ => a
  | _ => { posonlyargs := [], args := [], vararg := none, kwonlyargs := [], kw_defaults := [], kwarg := none, defaults := [] }
def defBody (s : Stmt) : List Stmt := match s with
  | .FunctionDef _ _ b _ _ _ _ _ _ _ => b
  | _ => []
def defScope (s : Stmt) : Scope := match s with
  | .FunctionDef _ _ _ _ _ _ sc _ _ _ => sc
  | _ => { kind := .function, names := [], isGenerator := false, isCoroutine := false }

/-! ### no exception leaves a def -/
abbrev CX0 : CXT := fun _ _ _ _ _ _ => False
abbrev E0 : XK := fun _ _ _ => False
/-! ### a def (or method) of the text as it stands behind the top -/
structure Fun (K : PySem.W.Frag) (x qual : Str) (st : Stmt) (f : Addr) (fd : FuncData) : Prop where
  ex : ∃ (oc : Value) (od : Option Addr) (kV doc pm : Value) (an : Option Addr) (cdv ct : Value) (osl : Array (Option Value)),
    fd = PySem.W.fnOf x qual (defArgs st) (defBody st) (defScope st) .none kV doc pm an cdv ct ∧ K.lookup f = some ⟨oc, od, .func fd, osl⟩ ∧ PySem.W.codeIn K cdv qual = true
  kp : PySem.W.keepIn K (.ref f) = true
section
variable {P : Program} {w : World} {K : PySem.W.Frag} {mg : Str → Option Value} {base : Heap}
/-- THE RULE for a def: its body as a term of rules, and the reading of that term -/
theorem Fun.ok {x qual : Str} {st : Stmt} {f : Addr} {fd : FuncData} {N ps : List Str} {k : Nat} {sp : Sp} (F : Fun K x qual st f fd) (S : FnScope N ps (defScope st)) (len : ∀ vs H Q E, sp vs H Q E → vs.length = ps.length)
    (hbody : ∀ (cdv : Value) (A : Around) (outer : List Env) (s : Shared) (H : Hp) (vs : List V) (Q : VK) (E : XK), Room k (A.deeper (envOfC qual (defScope st) s.heap.objs.size f cdv)) → sp vs H Q E →
      ∃ t, PSs (cxOf CX0 P w K mg base N qual (defScope st) f cdv A outer s H E).nox (defBody st) t ∧ t { nx := fun _ H' => Q .non H', rt := Q } (start N vs) H) : FnOk P w K mg base CX0 (k + 1) f fd ps sp := by
  obtain ⟨oc, od, kV, doc, pm, an, cdv, ct, osl, rfl, lk, hcd⟩ := F.ex
  refine fn_of lk hcd S len fun A outer s H vs Q E hr hsp => ?_
  obtain ⟨t, h, q⟩ := hbody cdv A outer s H vs Q E hr hsp
  exact ⟨t, h.nox, q⟩
/-- how its arguments bind (no defaults): h is «fun _ _ _ _ _ _ us hl => match us, hl with | [_, _], _ => rfl», one _ a parameter -/
theorem Fun.binds {x qual : Str} {st : Stmt} {f : Addr} {fd : FuncData} {ps : List Str} (F : Fun K x qual st f fd)
    (h : ∀ (kV doc pm : Value) (an : Option Addr) (cdv ct : Value) (us : List Value), us.length = ps.length → bindArgs (PySem.W.fnOf x qual (defArgs st) (defBody st) (defScope st) .none kV doc pm an cdv ct) ⟨us, []⟩ = pure (ps.zip us)) : Binds K fd ps [] := by
  obtain ⟨oc, od, kV, doc, pm, an, cdv, ct, osl, rfl, lk, hcd⟩ := F.ex
  exact .all (h kV doc pm an cdv ct)
theorem fun_mk {x qual : Str} {st : Stmt} {f : Addr} {oc : Value} {od an : Option Addr} {osl : Array (Option Value)} {kV doc pm cdv ct : Value} (l : K.lookup f = some ⟨oc, od, .func (PySem.W.fnOf x qual (defArgs st) (defBody st) (defScope st) .none kV doc pm an cdv ct), osl⟩)
    (c : PySem.W.codeIn K cdv qual = true) (k : PySem.W.keepIn K (.ref f) = true) : Fun K x qual st f (PySem.W.fnOf x qual (defArgs st) (defBody st) (defScope st) .none kV doc pm an cdv ct) := ⟨⟨oc, od, kV, doc, pm, an, cdv, ct, osl, rfl, l, c⟩, k⟩
end
theorem small1000 {n : Nat} (h : n ≤ 1000) : n < sizeLine := Nat.lt_of_le_of_lt h (by decide)

/-! ### expressions in short: the name that stands in the i-th slot -/
section
variable {X : Cx}
end

/-! ### tests -/
/-! ### heaps -/
/-- all that was tracked is as it was -/
def Same (H H' : Hp) : Prop := ∀ b o, H b = some o → H' b = some o
theorem Same.refl (H : Hp) : Same H H := fun _ _ h => h
theorem Same.trans {H H1 H2 : Hp} (a : Same H H1) (b : Same H1 H2) : Same H H2 := fun c o h => b c o (a c o h)
theorem Same.free {H H' : Hp} (e : Same H H') {l : Addr} (h : H' l = Option.none) : H l = Option.none := by
  cases q : H l with
  | none => rfl
  | some o =>
    rw [e l o q] at h
    cases h
theorem Same.seq {K : PySem.W.Frag} {H H' : Hp} {a : Addr} {xs : List V} (e : Same H H') (h : SqL K H a xs) : SqL K H' a xs := by
  rcases h with (h | ⟨o, h⟩) | h
  · exact .inl (.inl (e _ _ h))
  · exact .inl (.inr ⟨o, e _ _ h⟩)
  · exact .inr h

end L2

/-! part Ext1 -/
set_option Elab.async false
set_option linter.all false
set_option maxRecDepth 100000
set_option maxHeartbeats 4000000
/-! MY OWN LAYER 1: the rules in the form «what is wanted behind», one step at a time -/
namespace L2
open PySem PySem.Spec PyProof.Rows

def WE (X : Cx) (e : Expr) : TE := fun σ H Q => ∀ (pins : List (Addr × Obj)) (s : Shared), Inv X pins σ H s → wpAny (model X.prog X.w) X.A (eval e X.env) (EP X pins σ Q) X.xe s
def WT (X : Cx) (e : Expr) : TT := fun σ H Q => ∀ (pins : List (Addr × Obj)) (s : Shared), Inv X pins σ H s → wpAny (model X.prog X.w) X.A (isTrue e X.env (eval e X.env)) (TP X pins σ Q) X.xe s
def WW (X : Cx) (e : Expr) : TT := fun σ H Q => ∀ (whole : Sem Value) (pins : List (Addr × Obj)) (s : Shared), Inv X pins σ H s → wpAny (model X.prog X.w) X.A (isTrue e X.env whole) (TP X pins σ Q) X.xe s
def WA (X : Cx) (es : List Expr) : TA := fun σ H Q => ∀ (pos : Pos) (pins : List (Addr × Obj)) (s : Shared), Inv X pins σ H s → wpAny (model X.prog X.w) X.A (spliced (backTo pos (starEach es X.env))) (AP X pins σ Q) X.xe s
def WD (X : Cx) (st : Stmt) : TS := fun D σ H => ∀ (pins : List (Addr × Obj)) (s : Shared), Inv X pins σ H s → wpAny (model X.prog X.w) X.A (exec st X.env) (SP X pins D) X.xe s
def WDs (X : Cx) (st : List Stmt) : TS := fun D σ H => ∀ (pins : List (Addr × Obj)) (s : Shared), Inv X pins σ H s → wpAny (model X.prog X.w) X.A (execs st X.env) (SP X pins D) X.xe s
def WI (X : Cx) (tg iter : Expr) : TI := fun σ H R => ∀ (pins : List (Addr × Obj)) (s : Shared), Inv X pins σ H s →
    wpAny (model X.prog X.w) X.A (eval iter X.env) (fun v s1 => wpAny (model X.prog X.w) X.A (pyIter v) (PIE X pins σ tg R) X.xe s1) X.xe s
abbrev NX := St → Hp → Prop
/-- a statement; what is wanted: behind it, of a returned value, of a break, of a continue -/
def WS (X : Cx) (st : Stmt) (nx : NX) (rt : VK) (bk ct : NX) (σ : St) (H : Hp) : Prop := WD X st ⟨nx, rt, bk, ct⟩ σ H
def WB (X : Cx) (st : List Stmt) (nx : NX) (rt : VK) (bk ct : NX) (σ : St) (H : Hp) : Prop := WDs X st ⟨nx, rt, bk, ct⟩ σ H

section
variable {X : Cx} {e a b c : Expr} {es : List Expr} {st : Stmt} {sts : List Stmt} {t : TE} {tt : TT} {ta : TA} {ts : TS} {σ : St} {H : Hp} {Q : VK} {QB : Bool → Hp → Prop} {QA : List V → Hp → Prop} {D : Ends} {pos : Pos} {nx bk ct : NX} {rt : VK}
theorem peW : PE X e (WE X e) := fun pins s _ _ _ I h => h pins s I
theorem ptW : PT X e (WT X e) := fun pins s _ _ _ I h => h pins s I
theorem pwW : PW X e (WW X e) := fun wh pins s _ _ _ I h => h wh pins s I
theorem paW : PA X es (WA X es) := fun pos pins s _ _ _ I h => h pos pins s I
theorem psW : PS X st (WD X st) := fun pins s _ _ _ I h => h pins s I
theorem pssW : PSs X sts (WDs X sts) := fun pins s _ _ _ I h => h pins s I
theorem piW {tg iter : Expr} : PI X tg iter (WI X tg iter) := fun pins s _ _ _ I h => h pins s I
theorem PE.we (h : PE X e t) (q : t σ H Q) : WE X e σ H Q := fun pins s I => h pins s σ H Q I q
theorem PT.wt (h : PT X e tt) (q : tt σ H QB) : WT X e σ H QB := fun pins s I => h pins s σ H QB I q
theorem PW.ww (h : PW X e tt) (q : tt σ H QB) : WW X e σ H QB := fun wh pins s I => h wh pins s σ H QB I q
theorem PA.wa (h : PA X es ta) (q : ta σ H QA) : WA X es σ H QA := fun pos pins s I => h pos pins s σ H QA I q
theorem PS.wd (h : PS X st ts) (q : ts D σ H) : WD X st D σ H := fun pins s I => h pins s σ H D I q
theorem PSs.wds (h : PSs X sts ts) (q : ts D σ H) : WDs X sts D σ H := fun pins s I => h pins s σ H D I q
theorem PI.wi {tg iter : Expr} {ti : TI} {R : It → Hp → Prop} (h : PI X tg iter ti) (q : ti σ H R) : WI X tg iter σ H R := fun pins s I => h pins s σ H R I q
theorem WE.mono {Q' : VK} (h : WE X e σ H Q) (m : ∀ v H', Q v H' → Q' v H') : WE X e σ H Q' := fun pins s I => thn (h pins s I) fun u s' ⟨v, H', I', r, q⟩ => ⟨v, H', I', r, m v H' q⟩

/-! ### two ints seen -/
def I2 (x y : V) (k : Int → Int → Prop) : Prop := ∃ i j, x = .int i ∧ y = .int j ∧ k i j
theorem I2.mk {i j : Int} {k : Int → Int → Prop} (h : k i j) : I2 (.int i) (.int j) k := ⟨i, j, rfl, rfl, h⟩
/-- a bool seen -/
def B1 (x : V) (k : Bool → Prop) : Prop := ∃ c, x = .bl c ∧ k c
theorem B1.mk {c : Bool} {k : Bool → Prop} (h : k c) : B1 (.bl c) k := ⟨c, rfl, h⟩

/-! ### leaves -/
theorem we_var (i : Nat) {x : Str} {v : V} (hs : σ[i]? = some (some v)) (q : Q v H) (hN : X.N[i]? = some x := by rfl) (hv : Vis X.env.scope x := by first | exact Or.inl rfl | exact Or.inr (Or.inl rfl) | exact Or.inr (Or.inr rfl))
    (hd : (x == ("__debug__" : Str)) = false := by decide) (hcd : (x == ("__classdict__" : Str)) = false := by decide) : WE X (.Name x pos) σ H Q := (pe_var hN hv hd hcd).we ⟨v, hs, q⟩
theorem we_int {i j} (q : Q (.int i) H) : WE X (.Constant (.int i) j pos) σ H Q := pe_int.we q
theorem we_bl {b j} (q : Q (.bl b) H) : WE X (.Constant (.bool b) j pos) σ H Q := pe_bl.we q
theorem we_non {j} (q : Q .non H) : WE X (.Constant .none j pos) σ H Q := pe_non.we q
theorem we_str {x j} (q : Q (.str x) H) : WE X (.Constant (.str x) j pos) σ H Q := pe_str.we q
theorem we_glob {x : Str} {v : V} {u : Value} (hm : X.mg x = some u) (r : RelV v u) (q : Q v H) (hg : Gl X x := by rfl) (hd : (x == ("__debug__" : Str)) = false := by decide) : WE X (.Name x pos) σ H Q := (pe_glob hg hm r hd).we q
theorem we_bltn {x : Str} {v : V} {u : Value} (hm : X.mg x = none) (hv : bootBuiltins x = some u) (r : RelV v u) (q : Q v H) (hg : Gl X x := by rfl) (hn : x ≠ "__name__" := by decide) (hd : (x == ("__debug__" : Str)) = false := by decide) : WE X (.Name x pos) σ H Q := (pe_bltn hg hm hv r hn hd).we q

/-! ### ints -/
theorem we_add (q : WE X a σ H fun x H1 => WE X b σ H1 fun y H2 => I2 x y fun i j => Q (.int (i + j)) H2) : WE X (.BinOp a .Add b pos) σ H Q := (pe_op op_add peW peW).we q
theorem we_sub (q : WE X a σ H fun x H1 => WE X b σ H1 fun y H2 => I2 x y fun i j => Q (.int (i - j)) H2) : WE X (.BinOp a .Sub b pos) σ H Q := (pe_op op_sub peW peW).we q
theorem we_mul (q : WE X a σ H fun x H1 => WE X b σ H1 fun y H2 => I2 x y fun i j => CMul i j ∧ Q (.int (i * j)) H2) : WE X (.BinOp a .Mult b pos) σ H Q := (pe_op op_mul peW peW).we q
theorem we_mod (q : WE X a σ H fun x H1 => WE X b σ H1 fun y H2 => I2 x y fun i j => 0 < j ∧ Q (.int (i % j)) H2) : WE X (.BinOp a .Mod b pos) σ H Q := (pe_op op_mod peW peW).we q
theorem we_fdiv (q : WE X a σ H fun x H1 => WE X b σ H1 fun y H2 => I2 x y fun i j => CDiv i j ∧ Q (.int (i / j)) H2) : WE X (.BinOp a .FloorDiv b pos) σ H Q := (pe_op op_fdiv peW peW).we q
theorem we_neg (q : WE X a σ H fun x H1 => ∃ i, x = .int i ∧ Q (.int (-i)) H1) : WE X (.UnaryOp .USub a pos) σ H Q := (pe_un un_neg peW).we q

/-! ### comparisons of ints, as values and as tests -/
theorem we_gt (q : WE X a σ H fun x H1 => WE X b σ H1 fun y H2 => I2 x y fun i j => Q (.bl (decide (j < i))) H2) : WE X (.Compare a [.Gt] [b] pos) σ H Q := (pe_cmpR op_gt peW peW (nomark _)).we q
theorem we_eq (q : WE X a σ H fun x H1 => WE X b σ H1 fun y H2 => scal x y = true ∧ Q (.bl (decide (x = y))) H2) : WE X (.Compare a [.Eq] [b] pos) σ H Q := (pe_cmpR op_eq peW peW (nomark _)).we q
/-- any comparison as a test, by its value -/
theorem wt_cmp {op : CmpOp} {r : R2} (ho : OpR X (compareOp op) r) (hm : behindInMarks op b = false) (q : WE X a σ H fun x H1 => WE X b σ H1 fun y H2 => r x y H2 fun z H3 => B1 z fun k => QB k H3) : WT X (.Compare a [op] [b] pos) σ H QB :=
  (pt_cmpR ho peW peW hm).wt q
theorem wt_lt (q : WE X a σ H fun x H1 => WE X b σ H1 fun y H2 => I2 x y fun i j => QB (decide (i < j)) H2) : WT X (.Compare a [.Lt] [b] pos) σ H QB :=
  wt_cmp op_lt (nomark _) (WE.mono q fun _ _ h => WE.mono h fun _ _ ⟨i, j, e1, e2, k⟩ => ⟨i, j, e1, e2, _, rfl, k⟩)
theorem wt_gt (q : WE X a σ H fun x H1 => WE X b σ H1 fun y H2 => I2 x y fun i j => QB (decide (j < i)) H2) : WT X (.Compare a [.Gt] [b] pos) σ H QB :=
  wt_cmp op_gt (nomark _) (WE.mono q fun _ _ h => WE.mono h fun _ _ ⟨i, j, e1, e2, k⟩ => ⟨i, j, e1, e2, _, rfl, k⟩)
theorem wt_eq (q : WE X a σ H fun x H1 => WE X b σ H1 fun y H2 => scal x y = true ∧ QB (decide (x = y)) H2) : WT X (.Compare a [.Eq] [b] pos) σ H QB :=
  wt_cmp op_eq (nomark _) (WE.mono q fun _ _ h => WE.mono h fun _ _ ⟨e, k⟩ => ⟨e, _, rfl, k⟩)
theorem wt_ne (q : WE X a σ H fun x H1 => WE X b σ H1 fun y H2 => scal x y = true ∧ QB (!decide (x = y)) H2) : WT X (.Compare a [.NotEq] [b] pos) σ H QB :=
  wt_cmp op_ne (nomark _) (WE.mono q fun _ _ h => WE.mono h fun _ _ ⟨e, k⟩ => ⟨e, _, rfl, k⟩)
/-! ### and, or, not -/
theorem WW.wt (h : WW X e σ H QB) : WT X e σ H QB := fun pins s I => h _ pins s I
theorem ww_or1 (q : WT X a σ H QB) : WW X (.BoolOp .Or [a] pos) σ H QB := (pw_or1 ptW).ww q
theorem ww_or {rest} (q : WT X a σ H fun c H1 => if c = true then QB true H1 else WW X (.BoolOp .Or (b :: rest) pos) σ H1 QB) : WW X (.BoolOp .Or (a :: b :: rest) pos) σ H QB := (pw_or ptW pwW).ww q
theorem wt_not (q : WT X a σ H fun c H1 => QB (!c) H1) : WT X (.UnaryOp .Not a pos) σ H QB := (pt_not ptW).wt q
theorem we_one {op} (q : WE X a σ H Q) : WE X (.BoolOp op [a] pos) σ H Q := (pe_one peW).we q
theorem we_and {rest} (q : WE X a σ H fun x H1 => B1 x fun c => if c = true then WE X (.BoolOp .And (b :: rest) pos) σ H1 Q else Q (.bl false) H1) : WE X (.BoolOp .And (a :: b :: rest) pos) σ H Q := (pe_and peW peW).we q
theorem we_not (q : WE X a σ H fun x H1 => B1 x fun c => Q (.bl (!c)) H1) : WE X (.UnaryOp .Not a pos) σ H Q := (pe_not peW).we q
/-- a value that is a bool, as a test -/
theorem wt_val (q : WE X e σ H fun x H1 => B1 x fun k => QB k H1) (he : ∀ whole, isTrue e X.env whole = (do let v ← whole; standAt e.pos; holding [v] (truthy v)) := by intro _; rfl) : WT X e σ H QB := (pt_val peW he).wt q
/-- any value, as a test -/
theorem wt_truth (q : WE X e σ H fun x H1 => ∃ k, TruV X.K x H1 k ∧ QB k H1) (he : ∀ whole, isTrue e X.env whole = (do let v ← whole; standAt e.pos; holding [v] (truthy v)) := by intro _; rfl) : WT X e σ H QB := (pt_truth peW he).wt q

/-! ### argument lists, displays, calls -/
theorem wa_nil (q : QA [] H) : WA X [] σ H QA := pa_nil.wa q
theorem wa_cons (q : WE X e σ H fun x H1 => WA X es σ H1 fun xs H2 => QA (x :: xs) H2) (hs : starEach (e :: es) X.env = (false, eval e X.env) :: starEach es X.env := by rfl) : WA X (e :: es) σ H QA := (pa_cons peW paW hs).wa q
theorem we_lst (q : WA X es σ H fun xs H1 => xs.length ≤ sizeLine ∧ ∀ p, H1 p = none → Q (.ref p) (upd H1 p (.lst xs))) : WE X (.List es pos) σ H Q := (pe_lst paW).we q
theorem we_callB {x : Str} {p : Pos} {id : String} {r : List V → Hp → VK → Prop} (hc : CallR X (.builtin id) r) (hm : X.mg x = none) (hv : bootBuiltins x = some (.builtin id)) (q : WA X (e :: es) σ H fun vs H1 => r vs H1 Q) (hg : Gl X x := by rfl)
    (hn : x ≠ "__name__" := by decide) (hdb : (x == ("__debug__" : Str)) = false := by decide)
    (he : starEach (e :: es) X.env = (false, eval e X.env) :: starEach es X.env := by rfl) (hpl : (backTo pos (starEach es X.env)).any (·.1) = false := by rfl) : WE X (.Call (.Name x p) (e :: es) [] pos) σ H Q := (pe_callB hc hg hm hv paW hn hdb he hpl).we q
theorem we_callTy {x : Str} {p : Pos} {T : String} {r : List V → Hp → VK → Prop} (hc : CallR X (.type T) r) (hm : X.mg x = none) (hv : bootBuiltins x = some (.type T)) (q : WA X (e :: es) σ H fun vs H1 => r vs H1 Q) (hg : Gl X x := by rfl)
    (hn : x ≠ "__name__" := by decide) (hdb : (x == ("__debug__" : Str)) = false := by decide)
    (he : starEach (e :: es) X.env = (false, eval e X.env) :: starEach es X.env := by rfl) (hpl : (backTo pos (starEach es X.env)).any (·.1) = false := by rfl) : WE X (.Call (.Name x p) (e :: es) [] pos) σ H Q := (pe_callTy hc hg hm hv paW hn hdb he hpl).we q
theorem we_ix {r : R2} (hr : IxR X r) (q : WE X a σ H fun x H1 => WE X b σ H1 fun y H2 => r x y H2 Q) (hs : PlainIx b := by exact fun _ _ => rfl) : WE X (.Subscript a b pos) σ H Q := (pe_ix hr peW peW hs).we q
theorem we_ixL (q : WE X a σ H fun x H1 => WE X b σ H1 fun y H2 => rIxL X.K x y H2 Q) (hs : PlainIx b := by exact fun _ _ => rfl) : WE X (.Subscript a b pos) σ H Q := we_ix ix_list q hs
theorem we_bm {o : Expr} {name : Str} {apos cpos : Pos} {T id : String} {r : V → List V → Hp → VK → Prop} (pa : PlainAttrs T) (slot : Slot T name id) (hty : typeOf (.builtin id) = pure (.type "method_descriptor")) (hm : MtR X id r)
    (q : WE X o σ H fun x H1 => tyV X.K T x H1 ∧ WA X (e :: es) σ H1 fun xs H2 => r x xs H2 Q) (hbase : attributeBase o name X.env (eval o X.env) = eval o X.env := by rfl)
    (hfew : ((backTo cpos (starEach (e :: es) X.env)).all (fun x => !x.1) && (backToKw cpos (keywordEach [] X.env)).all (fun x => x.1.isSome)
      && decide ((e :: es).length + ([] : List Keyword).length + (if ([] : List Keyword).isEmpty then 0 else 1) < 30)) = true := by rfl)
    (hline : (apos.endLine == cpos.line) = true := by rfl) (hs : starEach (e :: es) X.env = (false, eval e X.env) :: starEach es X.env := by rfl) (hplain : (backTo cpos (starEach es X.env)).any (·.1) = false := by rfl) :
    WE X (.Call (.Attribute o name apos) (e :: es) [] cpos) σ H Q := (pe_bm pa slot hty hm peW paW hbase hfew hline hs hplain).we q

/-! ### statements -/
theorem wb_nil (q : nx σ H) : WB X [] nx rt bk ct σ H := pss_nil.wds q
theorem wb_cons (q : WS X st (fun σ' H' => WB X sts nx rt bk ct σ' H') rt bk ct σ H) : WB X (st :: sts) nx rt bk ct σ H := (pss_cons psW pssW).wds q
theorem wb_one (q : WS X st nx rt bk ct σ H) : WB X [st] nx rt bk ct σ H := (pss_one psW).wds q
theorem ws_expr (q : WE X e σ H fun _ H1 => nx σ H1) (hs : swapsWith e none pos.line X.env = pure false := by rfl) : WS X (.Expr e pos) nx rt bk ct σ H := (ps_expr peW hs).wd q
theorem ws_ret (q : WE X e σ H rt) : WS X (.Return (some e) pos) nx rt bk ct σ H := (ps_ret peW).wd q
theorem ws_if {s1 s2 : List Stmt} (q : WT X c σ H fun k H1 => if k = true then WB X s1 nx rt bk ct σ H1 else WB X s2 nx rt bk ct σ H1) : WS X (.If c s1 s2 pos) nx rt bk ct σ H := (ps_if ptW pssW pssW).wd q
theorem ws_set (i : Nat) {x : Str} {pos' : Pos} (hN : X.N.Nodup) (q : WE X e σ H fun v H1 => nx (σ.set i (some v)) H1) (hi : X.N[i]? = some x := by rfl) (hx : Loc X.env.scope x := by first | exact Or.inl rfl | exact Or.inr rfl)
    (hs : swapsWith e (some (.Name x pos')) pos.line X.env = pure false := by rfl) (hf : X.fn x = true ∨ X.env.scope.names.lookup x = some .local := by first | exact .inl rfl | exact .inr rfl) :
    WS X (.Assign [.Name x pos'] e pos) nx rt bk ct σ H := (ps_set hN hi hx peW hs hf).wd q
/-- o[i] = e -/
theorem ws_setIx {o i : Expr} {tpos : Pos} {t : TSet} (hs : PSet X t) (q : WE X e σ H fun v H1 => WE X o σ H1 fun ov H2 => WE X i σ H2 fun iv H3 => t ov iv v H3 fun H4 => nx σ H4)
    (ha : ∀ v, assign (.Subscript o i tpos) X.env v = (do
      let ov ← holding [v] (eval o X.env)
      let iv ← holding [v, ov] (eval i X.env)
      standAt tpos
      holding [v, ov, iv] (setItem ov iv v)
      release [v, ov, iv] []) := by intro _; rfl) (h1 : swapsWithSole [.Subscript o i tpos] e pos.line X.env = pure false := by rfl) (h2 : swappedStores [.Subscript o i tpos] e X.env = pure none := by rfl)
    (h3 : (assignEach [.Subscript o i tpos] X.env).map (·.2) = [assign (.Subscript o i tpos) X.env] := by rfl) : WS X (.Assign [.Subscript o i tpos] e pos) nx rt bk ct σ H := (ps_asg peW (pg_sub peW peW hs ha) h1 h2 h3).wd q
theorem ws_mono {nx' : NX} (h : WS X st nx rt bk ct σ H) (m : ∀ σ H, nx σ H → nx' σ H) : WS X st nx' rt bk ct σ H := fun pins s I => thn (h pins s I) fun f s' q => by
  cases f with
  | next => obtain ⟨σ', H', I', q⟩ := q; exact ⟨σ', H', I', m _ _ q⟩
  | brk => exact q
  | cont => exact q
  | ret v => exact q

/-! ### loops -/
theorem wi_list {l tg : Expr} {R : It → Hp → Prop} (q : WE X l σ H fun x H1 => ∃ a, x = .ref a ∧ (∃ xs, SqL X.K H1 a xs) ∧ R (Itl X.K a) H1) : WI X tg l σ H R := (pi_list peW).wi q
theorem wi_range1 {tg : Expr} {p : Pos} {R : It → Hp → Prop} (hm : X.mg "range" = none) (q : WA X [a] σ H fun vs H1 => ∃ j : Int, vs = [.int j] ∧ -(2 ^ 62) ≤ j ∧ j < 2 ^ 62 ∧ R (Itr 0 j.toNat) H1) (hg : Gl X "range" := by rfl)
    (hs : starEach [a] X.env = [(false, eval a X.env)] := by rfl) : WI X tg (.Call (.Name "range" p) [a] [] pos) σ H R := (pi_range1 hg hm paW hs).wi q
/-- the loop's variable stands in slot j; J: what is walked -/
theorem ws_for (j : Nat) {x : Str} {px : Pos} {iter : Expr} {body : List Stmt} (hN : X.N.Nodup) (hp : PassesOwn (model X.prog X.w) X.A X.env X.xe) (hc : X.calm = true)
    (q : WI X (.Name x px) iter σ H fun J H1 => ∃ W : Nat → Nat → St → Hp → Prop, (∃ m, W 0 m σ H1) ∧ ∀ i m σ H, W i m σ H →
      (J.stop i H ∧ nx σ H) ∨ (J.go i H ∧ ∃ N : St → Hp → Prop, (∀ σ' H', N σ' H' → ∃ m', m' < m ∧ W (i + 1) m' σ' H') ∧ ∀ x H', J.yld i H x H' → WB X body N rt nx N (σ.set j (some x)) H'))
    (hj : X.N[j]? = some x := by rfl) (hx : Loc X.env.scope x := by first | exact Or.inl rfl | exact Or.inr rfl) (hf : X.fn x = true ∨ X.env.scope.names.lookup x = some .local := by first | exact .inl rfl | exact .inr rfl)
    (hs : ∀ x, foldedSetIterable iter X.env x = pure x := by intro _; rfl) : WS X (.For (.Name x px) iter body [] pos) nx rt bk ct σ H := (ps_for hp hc piW (pg_name hN hj hx hf) pssW hs).wd q
/-- over a list that stays -/
theorem wf_list {K : PySem.W.Frag} {l : Addr} {xs : List V} {body : List Stmt} {j : Nat} (Pv : Nat → St → Hp → Prop) (h0 : Pv 0 σ H) (hl : ∀ i σ H, i ≤ xs.length → Pv i σ H → SqL K H l xs)
    (hs : ∀ i x σ H, xs[i]? = some x → Pv i σ H → WB X body (Pv (i + 1)) rt nx (Pv (i + 1)) (σ.set j (some x)) H) (hd : ∀ σ H, Pv xs.length σ H → nx σ H) :
    ∃ W : Nat → Nat → St → Hp → Prop, (∃ m, W 0 m σ H) ∧ ∀ i m σ H, W i m σ H →
      ((Itl K l).stop i H ∧ nx σ H) ∨ ((Itl K l).go i H ∧ ∃ N : St → Hp → Prop, (∀ σ' H', N σ' H' → ∃ m', m' < m ∧ W (i + 1) m' σ' H') ∧ ∀ x H', (Itl K l).yld i H x H' → WB X body N rt nx N (σ.set j (some x)) H') :=
  for_list (g := gName j) (tb := WDs X body) (D := ⟨nx, rt, fun _ _ => False, fun _ _ => False⟩) Pv h0 hl hs hd
theorem wf_range {lo : Int} {n : Nat} {body : List Stmt} {j : Nat} (Pv : Nat → St → Hp → Prop) (h0 : Pv 0 σ H)
    (hs : ∀ i σ H, i < n → Pv i σ H → WB X body (Pv (i + 1)) rt nx (Pv (i + 1)) (σ.set j (some (.int (lo + i)))) H) (hd : ∀ σ H, Pv n σ H → nx σ H) :
    ∃ W : Nat → Nat → St → Hp → Prop, (∃ m, W 0 m σ H) ∧ ∀ i m σ H, W i m σ H →
      ((Itr lo n).stop i H ∧ nx σ H) ∨ ((Itr lo n).go i H ∧ ∃ N : St → Hp → Prop, (∀ σ' H', N σ' H' → ∃ m', m' < m ∧ W (i + 1) m' σ' H') ∧ ∀ x H', (Itr lo n).yld i H x H' → WB X body N rt nx N (σ.set j (some x)) H') :=
  for_range (g := gName j) (tb := WDs X body) (D := ⟨nx, rt, fun _ _ => False, fun _ _ => False⟩) Pv h0 hs hd
end

/-! ### defs of the text -/
/-- no exception is told of where none is wanted -/
def Strict (CX : CXT) : Prop := ∀ (o : List Env) (H : Hp) (s : Shared) (e : Value) (s' : Shared), ¬ CX o H s E0 e s'
theorem Strict.pass {CX : CXT} (h : Strict CX) {X : Cx} : Passes CX X E0 := fun _ _ H s e s' _ z => (h _ H s e s' z).elim
/-- a def of the text by its name, with its promise -/
structure Fd (P : Program) (w : World) (K : PySem.W.Frag) (mg : Str → Option Value) (base : Heap) (CX : CXT) (x : Str) (ps : List Str) (k : Nat) (sp : Sp) : Prop where
  ex : ∃ f fd, mg x = some (.ref f) ∧ PySem.W.keepIn K (.ref f) = true ∧ Binds K fd ps [] ∧ FnOk P w K mg base CX k f fd ps sp ∧ ∃ oc od osl, K.lookup f = some ⟨oc, od, .func fd, osl⟩
section
variable {P : Program} {w : World} {K : PySem.W.Frag} {mg : Str → Option Value} {base : Heap} {CX : CXT}
/-- the text's def as it stands behind the top: its name, its object -/
structure Df (K : PySem.W.Frag) (mg : Str → Option Value) (x : Str) (ps : List Str) (st : Stmt) : Prop where
  ex : ∃ f fd, mg x = some (.ref f) ∧ Fun K x x st f fd ∧ Binds K fd ps []
/-- THE RULE for a def that lets no exception out -/
theorem Df.ok {x : Str} {st : Stmt} {N ps : List Str} {k : Nat} {sp : Sp} (F : Df K mg x ps st) (S : FnScope N ps (defScope st)) (len : ∀ vs H Q E, sp vs H Q E → vs.length = ps.length)
    (hbody : ∀ (f : Addr) (cdv : Value) (A : Around) (outer : List Env) (s : Shared) (H : Hp) (vs : List V) (Q : VK) (E : XK), Room k (A.deeper (envOfC x (defScope st) s.heap.objs.size f cdv)) → sp vs H Q E →
      WB (cxOf CX P w K mg base N x (defScope st) f cdv A outer s H E).nox (defBody st) (fun _ H' => Q .non H') Q (fun _ _ => False) (fun _ _ => False) (start N vs) H) : Fd P w K mg base CX x ps (k + 1) sp := by
  obtain ⟨f, fd, hm, F, hb⟩ := F.ex
  have kp := F.kp
  obtain ⟨oc, od, kV, doc, pm, an, cdv, ct, osl, rfl, lk, hcd⟩ := F.ex
  refine ⟨f, _, hm, kp, hb, fn_of lk hcd S len fun A outer s H vs Q E hr hsp => ?_, _, _, _, lk⟩
  exact ⟨_, (pssW (X := (cxOf CX P w K mg base N x (defScope st) f cdv A outer s H E).nox)).nox, hbody f cdv A outer s H vs Q E hr hsp⟩
/-- the rule for any def -/
theorem Df.okX {x : Str} {st : Stmt} {N ps : List Str} {k : Nat} {sp : Sp} (F : Df K mg x ps st) (S : FnScope N ps (defScope st)) (len : ∀ vs H Q E, sp vs H Q E → vs.length = ps.length)
    (hbody : ∀ (f : Addr) (cdv : Value) (A : Around) (outer : List Env) (s : Shared) (H : Hp) (vs : List V) (Q : VK) (E : XK), Room k (A.deeper (envOfC x (defScope st) s.heap.objs.size f cdv)) → sp vs H Q E →
      WB (cxOf CX P w K mg base N x (defScope st) f cdv A outer s H E) (defBody st) (fun _ H' => Q .non H') Q (fun _ _ => False) (fun _ _ => False) (start N vs) H) : Fd P w K mg base CX x ps (k + 1) sp := by
  obtain ⟨f, fd, hm, F, hb⟩ := F.ex
  have kp := F.kp
  obtain ⟨oc, od, kV, doc, pm, an, cdv, ct, osl, rfl, lk, hcd⟩ := F.ex
  refine ⟨f, _, hm, kp, hb, fn_of lk hcd S len fun A outer s H vs Q E hr hsp => ?_, _, _, _, lk⟩
  exact ⟨_, pssW, hbody f cdv A outer s H vs Q E hr hsp⟩
theorem Fd.mono {x : Str} {ps : List Str} {j k : Nat} {sp : Sp} (F : Fd P w K mg base CX x ps j sp) (h : j ≤ k) : Fd P w K mg base CX x ps k sp :=
  let ⟨f, fd, a, b, c, d, e⟩ := F.ex
  ⟨f, fd, a, b, c, d.mono h, e⟩
theorem Fd.imp {x : Str} {ps : List Str} {k : Nat} {sp sp' : Sp} (F : Fd P w K mg base CX x ps k sp) (h : ∀ vs H Q E, sp' vs H Q E → sp vs H Q E) : Fd P w K mg base CX x ps k sp' :=
  let ⟨f, fd, a, b, c, d, e⟩ := F.ex
  ⟨f, fd, a, b, c, d.imp h, e⟩
end
section
variable {X : Cx} {CX : CXT} {k j : Nat} {ps : List Str} {sp : Sp} {E : XK} {x : Str} {p pos : Pos} {e : Expr} {es : List Expr} {σ : St} {H : Hp} {Q : VK}
/-- f(e, ..); hj: the def's own room is enough -/
theorem we_call (F : Fd X.prog X.w X.K X.mg X.base CX x ps j sp) (hr : Room k X.A) (hx : Passes CX X E) (q : WA X (e :: es) σ H fun vs H1 => sp vs H1 Q E) (hj : j ≤ k := by decide) (hg : Gl X x := by rfl)
    (hdb : (x == ("__debug__" : Str)) = false := by decide) (he : starEach (e :: es) X.env = (false, eval e X.env) :: starEach es X.env := by rfl) (hpl : (backTo pos (starEach es X.env)).any (·.1) = false := by rfl) :
    WE X (.Call (.Name x p) (e :: es) [] pos) σ H Q := by
  obtain ⟨f, fd, hm, hk, hb, F, _⟩ := F.ex
  refine (pe_call (F.mono hj) hr hg hm hk hb .nil hx paW hdb he hpl).we ?_
  intro pos' pins s I
  exact thn (q pos' pins s I) fun us s' ⟨vs, H', I', r, h⟩ => ⟨vs, H', I', r, by show sp (vs ++ []) H' Q E; rw [List.append_nil]; exact h⟩
end

/-! ### the heap since the entry: what stood there stands, what was made since is listed -/
structure Hs (H0 H : Hp) (L : List (Addr × HO)) : Prop where
  same : Same H0 H
  at_ : ∀ p ∈ L, H p.1 = some p.2 ∧ H0 p.1 = none
  nd : (L.map (·.1)).Nodup
section
variable {H0 H H' : Hp} {L L' : List (Addr × HO)} {p l : Addr} {o o' : HO}
theorem Hs.start (H : Hp) : Hs H H [] := ⟨Same.refl H, fun _ h => (nomatch h), List.nodup_nil⟩
theorem Hs.get (h : Hs H0 H L) (i : Nat) (e : L[i]? = some (l, o)) : H l = some o := (h.at_ (l, o) (List.mem_of_getElem? e)).1
theorem Hs.old (h : Hs H0 H L) (e : H0 l = some o) : H l = some o := h.same l o e
theorem Hs.seq {K : PySem.W.Frag} {xs : List V} (h : Hs H0 H L) (e : SqL K H0 l xs) : SqL K H l xs := h.same.seq e
theorem same_upd (h : H p = none) (o : HO) : Same H (upd H p o) := fun b u q => by rw [upd_ne (ne_of_none q h)]; exact q
theorem Hs.alloc (h : Hs H0 H L) (hp : H p = none) : Hs H0 (upd H p o) ((p, o) :: L) := by
  refine ⟨h.same.trans (same_upd hp o), fun q hq => ?_, ?_⟩
  · rcases List.mem_cons.mp hq with rfl | hq
    · exact ⟨upd_same, h.same.free hp⟩
    · obtain ⟨a, b⟩ := h.at_ q hq
      exact ⟨by rw [upd_ne (ne_of_none a hp)]; exact a, b⟩
  · refine List.nodup_cons.mpr ⟨fun hm => ?_, h.nd⟩
    obtain ⟨q, hq, e⟩ := List.mem_map.mp hm
    have e : q.1 = p := e
    obtain ⟨a, _⟩ := h.at_ q hq
    rw [e, hp] at a; cases a
/-- behind a call that only made things, among them o at p -/
theorem Hs.call (h : Hs H0 H L) (g : Same H H') (hp : H p = none) (e : H' p = some o) : Hs H0 H' ((p, o) :: L) := by
  refine ⟨h.same.trans g, fun q hq => ?_, ?_⟩
  · rcases List.mem_cons.mp hq with rfl | hq
    · exact ⟨e, h.same.free hp⟩
    · obtain ⟨a, b⟩ := h.at_ q hq
      exact ⟨g _ _ a, b⟩
  · refine List.nodup_cons.mpr ⟨fun hm => ?_, h.nd⟩
    obtain ⟨q, hq, e⟩ := List.mem_map.mp hm
    have e : q.1 = p := e
    obtain ⟨a, _⟩ := h.at_ q hq
    rw [e, hp] at a; cases a
theorem Hs.stay (h : Hs H0 H L) (g : Same H H') : Hs H0 H' L := ⟨h.same.trans g, fun q hq => ⟨g _ _ (h.at_ q hq).1, (h.at_ q hq).2⟩, h.nd⟩
theorem Hs.write (h : Hs H0 H L) (i : Nat) (e : L[i]? = some (l, o)) : Hs H0 (upd H l o') (L.set i (l, o')) := by
  have hm : (l, o) ∈ L := List.mem_of_getElem? e
  obtain ⟨a, b⟩ := h.at_ _ hm
  have hi : i < L.length := (List.getElem?_eq_some_iff.mp e).1
  have hk : (L.set i (l, o')).map (·.1) = L.map (·.1) := by
    rw [List.map_set]
    have : (L.map (·.1))[i]? = some l := by rw [List.getElem?_map, e]; rfl
    obtain ⟨hi', e'⟩ := List.getElem?_eq_some_iff.mp this
    apply List.ext_getElem?
    intro j
    by_cases hj : j = i
    · subst hj; rw [List.getElem?_set_self (by simpa using hi), this]
    · rw [List.getElem?_set_ne (Ne.symm hj)]
  refine ⟨fun c u q => ?_, fun q hq => ?_, by rw [hk]; exact h.nd⟩
  · have : c ≠ l := fun z => by subst z; rw [b] at q; cases q
    rw [upd_ne this]; exact h.same c u q
  · obtain ⟨j, hj⟩ := List.getElem?_of_mem hq
    by_cases e1 : j = i
    · subst e1
      rw [List.getElem?_set_self hi] at hj
      cases hj
      exact ⟨upd_same, b⟩
    · rw [List.getElem?_set_ne (Ne.symm e1)] at hj
      have hq' := h.at_ q (List.mem_of_getElem? hj)
      have ne : q.1 ≠ l := fun z => by
        have h1 : (L.map (·.1))[j]? = some l := by rw [List.getElem?_map, hj, ← z]; rfl
        have h2 : (L.map (·.1))[i]? = some l := by rw [List.getElem?_map, e]; rfl
        obtain ⟨a1, a2⟩ := List.getElem?_eq_some_iff.mp h1
        obtain ⟨b1, b2⟩ := List.getElem?_eq_some_iff.mp h2
        exact e1 ((List.getElem_inj h.nd).mp (a2.trans b2.symm))
      exact ⟨by rw [upd_ne ne]; exact hq'.1, hq'.2⟩
theorem Hs.free (h : Hs H0 H L) (i : Nat) (e : L[i]? = some (l, o)) : H0 l = none := (h.at_ (l, o) (List.mem_of_getElem? e)).2
theorem Hs.drop (h : Hs H0 H L) (n : Nat) : Hs H0 H (L.drop n) := ⟨h.same, fun q hq => h.at_ q (List.mem_of_mem_drop hq), by rw [List.map_drop]; exact h.nd.sublist (List.drop_sublist _ _)⟩
end
end L2

/-! part Ext2 -/
set_option Elab.async false
set_option linter.all false
set_option maxRecDepth 100000
set_option maxHeartbeats 4000000
/-! MY OWN LAYER 2: list comprehensions -/
namespace L2
open PySem PySem.Spec PyProof.Rows

theorem closureFor_ex {env : Env} : ∀ (names : List (Str × NameKind)) (acc : List (Str × Addr)), (∀ x ∈ names, x.2 = .free → ∃ c, env.cells.lookup x.1 = some c) → (∀ x c, acc.lookup x = some c → env.cells.lookup x = some c) →
    ∃ cl, (forIn names acc fun (y : Str × NameKind) cs => if (y.2 == NameKind.free) = true then (do let a ← cellOf env y.1; pure (ForInStep.yield ((y.1, a) :: cs)) : Sem (ForInStep (List (Str × Addr)))) else pure (ForInStep.yield cs)) = pure cl ∧
      (∀ x c, cl.lookup x = some c → env.cells.lookup x = some c) ∧ (∀ x ∈ names, x.2 = .free → ∃ c, cl.lookup x.1 = some c) ∧ (∀ x c, acc.lookup x = some c → ∃ c', cl.lookup x = some c')
  | [], acc, _, ha => ⟨acc, rfl, ha, fun _ h => (nomatch h), fun x c h => ⟨c, h⟩⟩
  | (n, k) :: r, acc, h, ha => by
    have hr : ∀ x ∈ r, x.2 = .free → ∃ c, env.cells.lookup x.1 = some c := fun x hx => h x (List.mem_cons_of_mem _ hx)
    by_cases hk : k = .free
    · subst hk
      obtain ⟨c, hc⟩ := h (n, .free) List.mem_cons_self rfl
      have ha' : ∀ x c', ((n, c) :: acc).lookup x = some c' → env.cells.lookup x = some c' := fun x c' e => by
        rw [List.lookup_cons] at e
        split at e
        · rename_i hx
          have : x = n := by simpa using hx
          cases e
          rw [this]; exact hc
        · exact ha x c' e
      obtain ⟨cl, e1, e2, e3, e4⟩ := closureFor_ex r ((n, c) :: acc) hr ha'
      refine ⟨cl, ?_, e2, fun x hx hf => ?_, fun x c' e => ?_⟩
      · rw [List.forIn_cons]
        have q : cellOf env n = pure c := by unfold cellOf; rw [hc]
        show (cellOf env n >>= fun a => pure (ForInStep.yield ((n, a) :: acc)) : Sem (ForInStep (List (Str × Addr)))) >>= _ = _
        rw [q]
        exact e1
      · rcases List.mem_cons.mp hx with rfl | hx
        · exact e4 n c (by rw [List.lookup_cons]; simp)
        · exact e3 x hx hf
      · by_cases hx : x = n
        · subst hx; exact e4 x c (by rw [List.lookup_cons]; simp)
        · refine e4 x c' ?_
          rw [List.lookup_cons]
          have : (x == n) = false := by simpa using hx
          rw [this]; exact e
    · obtain ⟨cl, e1, e2, e3, e4⟩ := closureFor_ex r acc hr ha
      refine ⟨cl, ?_, e2, fun x hx hf => ?_, e4⟩
      · rw [List.forIn_cons]
        have q : (k == NameKind.free) = false := by simpa using hk
        show ((if (k == NameKind.free) = true then _ else pure (ForInStep.yield acc)) : Sem (ForInStep (List (Str × Addr)))) >>= _ = _
        rw [q]
        exact e1
      · rcases List.mem_cons.mp hx with rfl | hx
        · exact absurd hf hk
        · exact e3 x hx hf
theorem closure_ex {env : Env} (sc : Scope) (h : ∀ x ∈ sc.names, x.2 = .free → ∃ c, env.cells.lookup x.1 = some c) :
    ∃ cl, closureFor sc env = pure cl ∧ (∀ x c, cl.lookup x = some c → env.cells.lookup x = some c) ∧ (∀ x ∈ sc.names, x.2 = .free → ∃ c, cl.lookup x.1 = some c) := by
  obtain ⟨cl, e1, e2, e3, _⟩ := closureFor_ex (env := env) sc.names [] h (fun x c e => by simp at e)
  refine ⟨cl, ?_, e2, e3⟩
  show (forIn sc.names ([] : List (Str × Addr)) _ >>= fun cs => pure cs) = _
  have : (forIn sc.names ([] : List (Str × Addr)) fun (y : Str × NameKind) cs => if (y.2 == NameKind.free) = true then (do let a ← cellOf env y.1; pure (ForInStep.yield ((y.1, a) :: cs)) : Sem (ForInStep (List (Str × Addr)))) else pure (ForInStep.yield cs)) >>= (fun cs => pure cs) = pure cl := by rw [e1]; rfl
  exact this

/-- the context of a comprehension's block: x (slot 0) is its variable, the other names are read -/
def cxComp (X : Cx) (sc : Scope) (N' : List Str) (cl : List (Str × Addr)) (C : Addr) (s : Shared) (H : Hp) (fp : List Addr) : Cx :=
  { X with N := N', s₀ := s, H₀ := H, env := compEnvC sc cl C X.env, outer := X.stack, ex := fp, fn := fun y => sc.names.lookup y == some .cell, pn := [], xe := fun _ _ => False }

/-- the tests of a clause -/
def PIfs (X : Cx) (ifs : List Expr) (t : TT) : Prop :=
  ∀ (pins : List (Addr × Obj)) (s : Shared) (σ : St) (H : Hp) (Q : Bool → Hp → Prop), Inv X pins σ H s → t σ H Q →
    wpAny (model X.prog X.w) X.A (forIn ifs true fun c r => if r = true then do let ok ← isTrue c X.env (eval c X.env); pure (ForInStep.yield ok) else pure (ForInStep.yield r)) (TP X pins σ Q) X.xe s
theorem pifs_nil {X : Cx} : PIfs X [] (fun _ H Q => Q true H) := fun _ _ _ H _ I h => wpAny_tests_nil ⟨H, I, h⟩
theorem pifs_one {X : Cx} {c : Expr} {t : TT} (h : PT X c t) : PIfs X [c] t := fun pins s σ H Q I q => wpAny_tests_one (h pins s σ H Q I q)

section
variable {prog : Program} {w : World} {A : Around} {R : Result → Shared → Prop} {s : Shared}
theorem codeAny_compLoop_own {elt target iter : Expr} {ifs : List Expr} {scope : Scope} {pos : Pos} {it acc : Value} {env : Env} (I : Nat → Shared → Prop)
    (turn : ∀ n s, I n s → wpAny (model prog w) A (pyNext it) (fun r s₁ => match r with
      | none => R (.ok .next) s₁
      | some v => wpAny (model prog w) A (letOwnedTupleGo target it v) (fun _ s₁ => wpAny (model prog w) A (assign target env v) (fun _ s₂ =>
          wpAny (model prog w) A (forIn ifs true fun c r => if r = true then do let ok ← isTrue c env (eval c env); pure (ForInStep.yield ok) else pure (ForInStep.yield r)) (fun ok s₃ =>
            if ok = true then wpAny (model prog w) A (eval elt env) (fun x s₄ =>
              wpAny (model prog w) A (call (.builtin "list.append") [acc, x]) (fun _ s₅ => ∃ m, m < n ∧ I m s₅) (fun _ _ => False) s₄) (fun _ _ => False) s₃
            else ∃ m, m < n ∧ I m s₃) (fun _ _ => False) s₂) (fun _ _ => False) s₁) (fun _ _ => False) s₁) (fun _ _ => False) s)
    (n : Nat) (h : I n s) :
    codeAny (model prog w) A (.compLoop (.ListComp elt [⟨target, iter, ifs, 0⟩] scope pos) 0 it acc env) R s := by
  refine codeAny_loop rfl I (fun n s hI => ?_) n h
  show wpAny _ A ((compTurn (.ListComp elt [⟨target, iter, ifs, 0⟩] scope pos) 0 it acc env).onRaise (fun x => do noteFrame x env; theTreesLotGoes x)) _ _ s
  refine wpAny_noted ?_
  rw [compTurn_list]
  refine wpAny_bind (wpAny_standAt (wpAny_bind (wpAny_mono (turn n s hI) (fun r s₁ h₁ => ?_) fun _ _ h' => h'.elim)))
  cases r with
  | none => exact wpAny_pure h₁
  | some v =>
    refine wpAny_bind (wpAny_mono h₁ (fun _ s₁' h₁' => ?_) fun _ _ h' => h'.elim)
    refine wpAny_bind (wpAny_mono h₁' (fun _ s₂ h₂ => wpAny_bind (wpAny_mono h₂ (fun ok s₃ h₃ => ?_) fun _ _ h' => h'.elim)) fun _ _ h' => h'.elim)
    cases ok with
    | false => exact wpAny_pure ⟨rfl, h₃⟩
    | true =>
      exact wpAny_bind (wpAny_bind (wpAny_mono h₃ (fun x s₄ h₄ => wpAny_bind (wpAny_mono h₄ (fun _ s₅ h₅ => wpAny_pure (wpAny_pure ⟨rfl, h₅⟩)) fun _ _ h' => h'.elim)) fun _ _ h' => h'.elim))
end

/-- the names that a block reads: in the slot i of the block the name of the slot cap[i - 1] around it -/
structure Caps (X : Cx) (sc : Scope) (N' : List Str) (σ σ' : St) (x : Str) : Prop where
  kind : sc.kind = .function
  nocell : ∀ y ∈ sc.names, y.2 ≠ .cell
  here : ∀ y ∈ sc.names, y.2 = .free → X.env.kindOf y.1 = some .cell ∨ X.env.kindOf y.1 = some .free
  names : ∀ y ∈ sc.names, y.2 = .local → sc.names.lookup y.1 = some .local
  var : sc.names.lookup x = some .local
  nd : N'.Nodup
  n0 : N'[0]? = some x
  s0 : σ'[0]? = some none
  len : σ'.length = N'.length
  cap : ∀ (i : Nat) (y : Str) (v : V), N'[i]? = some y → σ'[i]? = some (some v) → sc.names.lookup y = some .free ∧ ∃ j : Nat, X.N[j]? = some y ∧ σ[j]? = some (some v)

theorem lookup_mem_of {α : Type} {x : Str} {v : α} : ∀ {l : List (Str × α)}, l.lookup x = some v → (x, v) ∈ l
  | [], h => by simp at h
  | (n, k) :: r, h => by
    rw [List.lookup_cons] at h
    split at h
    · rename_i e
      have : x = n := by simpa using e
      cases h
      subst this
      exact List.mem_cons_self
    · exact List.mem_cons_of_mem _ (lookup_mem_of h)

section
variable {X : Cx} {pins : List (Addr × Obj)} {σ σ' : St} {H : Hp} {s : Shared} {elt iter : Expr} {ifs : List Expr} {x : Str} {px pos : Pos} {sc : Scope} {N' : List Str} {cl : List (Str × Addr)} {it : Addr} {fp : List Addr} {tn : Nat → Heap → Prop} {J : It}

theorem relabel_kind {y : Str} {sc : Scope} {env : Env} {k : NameKind} (h : (relabel sc env).names.lookup y = some k) : sc.names.lookup y = some k ∨ (k = .cell ∧ sc.names.lookup y = some .free) := by
  unfold relabel at h
  generalize sc.names = l at h ⊢
  induction l with
  | nil => simp at h
  | cons p r ih =>
    obtain ⟨n, k'⟩ := p
    simp only [List.map_cons] at h
    by_cases hc : (k' == NameKind.free && env.scope.kind == .function && env.kindOf n == some .cell) = true
    · rw [if_pos hc, List.lookup_cons] at h
      rw [List.lookup_cons]
      split at h
      · cases h
        refine .inr ⟨rfl, ?_⟩
        have : k' = .free := by
          rw [Bool.and_eq_true, Bool.and_eq_true] at hc
          simpa using hc.1.1
        rw [this]
      · exact ih h
    · rw [if_neg hc, List.lookup_cons] at h
      rw [List.lookup_cons]
      split at h
      · exact .inl h
      · exact ih h

theorem relabel_free {y : Str} {env : Env} : ∀ (l : List (Str × NameKind)), l.lookup y = some .free →
    (l.map fun (n, k) => if (k == NameKind.free && env.scope.kind == .function && env.kindOf n == some .cell) then (n, NameKind.cell) else (n, k)).lookup y = some .cell ∨
    (l.map fun (n, k) => if (k == NameKind.free && env.scope.kind == .function && env.kindOf n == some .cell) then (n, NameKind.cell) else (n, k)).lookup y = some .free
  | [], h => by simp at h
  | (n, k) :: r, h => by
    have ih := @relabel_free y env r
    show List.lookup y ((if (k == NameKind.free && env.scope.kind == .function && env.kindOf n == some .cell) = true then (n, NameKind.cell) else (n, k)) :: _) = _ ∨ List.lookup y ((if (k == NameKind.free && env.scope.kind == .function && env.kindOf n == some .cell) = true then (n, NameKind.cell) else (n, k)) :: _) = _
    cases hx : y == n with
    | true =>
      simp only [List.lookup_cons, hx] at h
      by_cases hc : (k == NameKind.free && env.scope.kind == .function && env.kindOf n == some .cell) = true
      · rw [if_pos hc]; simp only [List.lookup_cons, hx]; exact .inl (by first | rfl | trivial)
      · rw [if_neg hc]; simp only [List.lookup_cons, hx]; exact .inr h
    | false =>
      simp only [List.lookup_cons, hx] at h
      by_cases hc : (k == NameKind.free && env.scope.kind == .function && env.kindOf n == some .cell) = true
      · rw [if_pos hc]; simp only [List.lookup_cons, hx]; exact ih h
      · rw [if_neg hc]; simp only [List.lookup_cons, hx]; exact ih h
theorem comp_ok {C : Addr} {s3 : Shared} {H3 : Hp} (cp : Caps X sc N' σ σ' x) (I3 : Inv X pins σ H3 s3) (hC : C = s3.heap.objs.size) (f : ∀ b ∈ fp, FpOk X pins H3 b) (hfl : ∀ b ∈ fp, b < s3.heap.objs.size)
    (c1 : ∀ y c, cl.lookup y = some c → X.env.cells.lookup y = some c) (c2 : ∀ y ∈ sc.names, y.2 = .free → ∃ c, cl.lookup y.1 = some c) : (cxComp X sc N' cl C s3 H3 fp).Ok := by
  subst hC
  refine ⟨I3.ok.mod, ?_, I3.ok.glob, I3.ok.blt, Nat.le_refl _, fun y z c e1 e2 => I3.ok.inj y z c (c1 y c e1) (c1 z c e2), fun y hy => ?_, fun y c hf => absurd rfl (cp.nocell _ (lookup_mem_of (eq_of_beq hf))), I3.ok.hd, I3.ok.frames, .inl rfl, fun b hb => ⟨Nat.ne_of_lt (hfl b hb), fun y c e => (f b hb).2.2.2.2.1 y c (c1 y c e)⟩,
    I3.bs, Nat.le_trans I3.ok.bsz I3.sz, fun b o e hb => ?_, fun b hb hs => ?_, I3.stack, I3.stkFree⟩
  · show (relabel sc X.env).kind = .function
    exact cp.kind
  · have hy : (relabel sc X.env).names.lookup y = some .cell ∨ (relabel sc X.env).names.lookup y = some .free := hy
    have hfree : sc.names.lookup y = some .free := by
      rcases hy with hy | hy
      · rcases relabel_kind hy with q | q
        · exact absurd rfl (cp.nocell _ (lookup_mem_of q))
        · exact q.2
      · rcases relabel_kind hy with q | q
        · exact q
        · exact absurd q.1 (by decide)
    exact c2 (y, .free) (lookup_mem_of hfree) rfl
  · rcases (f b hb).2.2.2.1 with z | z
    · exact I3.ok.noex b o e z
    · exact absurd (Nat.lt_of_lt_of_le (Heap.lt_size (I3.ok.bs b o e).1) z) (Nat.lt_irrefl _)
  · rcases List.mem_cons.mp (I3.stkSub b hs) with e | z
    · exact (f b hb).2.1 e
    · exact (f b hb).2.2.1 z

theorem comp_start {s3 : Shared} {H3 : Hp} {h1 : Heap} {tk : Nat} {m : Str → Option Value} (cp : Caps X sc N' σ σ' x) (I3 : Inv X pins σ H3 s3) (f : ∀ b ∈ fp, FpOk X pins H3 b) (hfl : ∀ b ∈ fp, b < s3.heap.objs.size)
    (c1 : ∀ y c, cl.lookup y = some c → X.env.cells.lookup y = some c) (c2 : ∀ y ∈ sc.names, y.2 = .free → ∃ c, cl.lookup y.1 = some c)
    (hn : h1.Ns s3.heap.objs.size m) (old : ∀ b o, s3.heap.get? b = some o → h1.get? b = some o) :
    Inv (cxComp X sc N' cl s3.heap.objs.size s3 H3 fp) [] σ' H3 { s3 with heap := h1, toks := tk } := by
  refine ⟨comp_ok cp I3 rfl f hfl c1 c2, rfl, I3.bare, Un.kept old, ⟨m, hn, fun i y v e1 e2 _ => ?_⟩, fun y c e => ?_, I3.hok.fresh (Nat.le_refl _), fun y c e => I3.freeC y c (c1 y c e), fun p hp => absurd (show p ∈ ([] : List (Addr × Obj)) from hp) (by simp), I3.hok.kept old, cp.len⟩
  · obtain ⟨hf, j, n1, n2⟩ := cp.cap i y v e1 e2
    have hm := lookup_mem_of hf
    obtain ⟨mo, hno, hlo⟩ := I3.loc
    have hk := cp.here _ hm rfl
    obtain ⟨u, r, l⟩ := hlo j y v n1 n2 (.inr hk)
    refine ⟨u, r, ?_⟩
    rcases l with ⟨k, _⟩ | ⟨_, c, e, z⟩
    · rcases hk with k' | k' <;> (rw [k] at k'; cases k')
    · obtain ⟨c', e'⟩ := c2 _ hm rfl
      have : c' = c := by
        have := c1 _ _ e'
        have e : X.env.cells.lookup y = some c := e
        rw [e] at this
        exact (Option.some.inj this).symm
      subst this
      refine .inr ⟨?_, c', e', ?_⟩
      · exact relabel_free sc.names hf
      · obtain ⟨o, ho, hd⟩ := z
        exact ⟨o, old _ _ ho, hd⟩
  · obtain ⟨v, o, ho, hd⟩ := I3.cell y c (c1 y c e)
    exact ⟨v, o, old _ _ ho, hd⟩

/-- W: the turn, the measure, the heap (the list that is made stands at D) -/
def CompW (J : It) (ti : TT) (te : TE) (σ' : St) (Q : VK) (D : Addr) (H : Hp) : Prop :=
  ∃ W : Nat → Nat → Hp → Prop, (∃ m, W 0 m (upd H D (.lst []))) ∧ ∀ i m H, W i m H →
    (J.stop i H ∧ Q (.ref D) H) ∨ (J.go i H ∧ ∀ x H', J.yld i H x H' → ti (σ'.set 0 (some x)) H' fun k H2 =>
      if k = true then te (σ'.set 0 (some x)) H2 fun v H3 => ∃ xs, H3 D = some (.lst xs) ∧ xs.length < sizeLine ∧ ∃ m', m' < m ∧ W (i + 1) m' (upd H3 D (.lst (xs ++ [v])))
      else ∃ m', m' < m ∧ W (i + 1) m' H2)

theorem comp_block {E : Value → Shared → Prop} {RR : Value → Addr → Result → Shared → Prop} {te : TE} {ti : TT} {Q : VK} (hc : X.calm = true) (cp : Caps X sc N' σ σ' x) (I : Inv X pins σ H s)
    (T : Turn X.prog X.w X.K (.Name x px) J fp it tn) (st : tn 0 s.heap) (f : ∀ b ∈ fp, FpOk X pins H b)
    (c1 : ∀ y c, cl.lookup y = some c → X.env.cells.lookup y = some c) (c2 : ∀ y ∈ sc.names, y.2 = .free → ∃ c, cl.lookup y.1 = some c)
    (he : ∀ C s H fp, PE (cxComp X sc N' cl C s H fp) elt te) (hi : ∀ C s H fp, PIfs (cxComp X sc N' cl C s H fp) ifs ti)
    (q : ∀ D, H D = none → CompW J ti te σ' Q D H)
    (fin : ∀ D C H' s' m, Inv X pins σ H' s' → s'.heap.Ns C m → FpOk X pins H' C → C ≠ D → Q (.ref D) H' → RR (.ref D) C (.ok .next) s') :
    wpAny (model X.prog X.w) X.A (newList []) (fun acc s₃ => wpAny (model X.prog X.w) X.A (newFunctionEnv sc X.env.globals cl [] X.env.qual none .none (some X.env)) (fun cenv s₄ =>
      codeAny (model X.prog X.w) X.A (.compStart (.ListComp elt [⟨.Name x px, iter, ifs, 0⟩] sc pos) 0 (.ref it) acc { cenv with scope := relabel sc X.env }) (RR acc cenv.locals) s₄) E s₃) E s := by
  refine wpAny_newObj_type ?_
  have I3 : Inv X pins σ (upd H s.heap.objs.size (.lst [])) { s with heap := s.heap.push { cls := .type "list", dict := none, data := .seq ([] : List Value).toArray } } := I.lnew (its := []) (ys := []) (t' := s.toks) .nil (Nat.zero_le _)
  have hD : H s.heap.objs.size = none := I.fresh
  have fpl : ∀ b ∈ fp, b < s.heap.objs.size := fun b hb => by
    obtain ⟨o, e, _⟩ := T.obj _ _ st b hb
    exact Heap.lt_size e
  obtain ⟨W, ⟨m0, w0⟩, turn⟩ := q _ hD
  have f3 : ∀ b ∈ fp, FpOk X pins (upd H s.heap.objs.size (.lst [])) b := fun b hb => ⟨by rw [upd_ne (Nat.ne_of_lt (fpl b hb))]; exact (f b hb).1, (f b hb).2⟩
  refine wpAny_newFunctionEnv cp.nocell (by intro y hy; simp at hy) (fun h₁ hns₁ hsb₁ => ?_) cp.kind
  generalize hs3 : ({ s with heap := s.heap.push { cls := .type "list", dict := none, data := .seq ([] : List Value).toArray } } : Shared) = s3 at I3 hns₁ hsb₁ ⊢
  have sz3 : s3.heap.objs.size = s.heap.objs.size + 1 := by rw [← hs3]; exact Heap.size_push ..
  have old : ∀ b o, s3.heap.get? b = some o → h₁.get? b = some o := fun b o e => hsb₁.extBut b o (Nat.ne_of_lt (Heap.lt_size e)) (Heap.get?_push_of_some _ e)
  have fpl3 : ∀ b ∈ fp, b < s3.heap.objs.size := fun b hb => by rw [sz3]; exact Nat.lt_succ_of_lt (fpl b hb)
  have J0 := comp_start (N' := N') (tk := s3.toks + ([] : List (Str × Value)).length) cp I3 f3 fpl3 c1 c2 hns₁ old
  have st1 : tn 0 h₁ := T.keep _ _ _ st fun b hb o e => old b o (by rw [← hs3]; exact Heap.get?_push_of_some _ e)
  -- the iterator's objects within the block
  have fin0 : ∀ {Hc : Hp}, (∀ b ∈ fp, Hc b = none) → ∀ b ∈ fp, FpOk (cxComp X sc N' cl s3.heap.objs.size s3 (upd H s.heap.objs.size (.lst [])) fp) [] Hc b := fun hn b hb =>
    ⟨hn b hb, Nat.ne_of_lt (fpl3 b hb), J0.ok.exfs b hb, .inl hb, fun y c e => (f b hb).2.2.2.2.1 y c (c1 y c e), fun p hp => absurd (show p ∈ ([] : List (Addr × Obj)) from hp) (by simp)⟩
  have loop : ∀ s4 : Shared, s4 = { s3 with heap := h₁, toks := s3.toks + ([] : List (Str × Value)).length } →
      codeAny (model X.prog X.w) X.A (.compLoop (.ListComp elt [⟨.Name x px, iter, ifs, 0⟩] sc pos) 0 (.ref it) (.ref s.heap.objs.size) (compEnvC sc cl s3.heap.objs.size X.env)) (RR (.ref s.heap.objs.size) s3.heap.objs.size) s4 := by
    rintro s4 rfl
    refine codeAny_compLoop_own (fun n s' => ∃ i Hc, Inv (cxComp X sc N' cl s3.heap.objs.size s3 (upd H s.heap.objs.size (.lst [])) fp) [] σ' Hc s' ∧ tn i s'.heap ∧ (∀ b ∈ fp, Hc b = none) ∧ W i n Hc) ?_ m0
      ⟨0, _, J0, st1, fun b hb => (f3 b hb).1, w0⟩
    rintro n s5 ⟨i, Hc, J5, st5, fr5, w5⟩
    rcases turn i n Hc w5 with ⟨stop, qn⟩ | ⟨go, step⟩
    · refine thn (T.done (cxComp X sc N' cl s3.heap.objs.size s3 (upd H s.heap.objs.size (.lst [])) fp) rfl rfl rfl hc i [] s5 σ' Hc _ J5 (fin0 fr5) st5 stop) fun r s6 ⟨hr, J6⟩ => ?_
      subst hr
      have I6 : Inv X pins σ Hc s6 := I3.call' J6.os J6.base J6.hok J6.bare fun b hb => ⟨(f b hb).2.2.2.1, (f b hb).2.1, (f b hb).2.2.2.2.1, (f b hb).2.2.2.2.2⟩
      obtain ⟨m6, hn6, _⟩ := J6.loc
      refine fin _ _ Hc s6 m6 I6 hn6 ?_ (by rw [sz3]; exact Nat.succ_ne_self _) qn
      refine ⟨J6.free, Nat.ne_of_gt (Nat.lt_of_lt_of_le I3.lt (Nat.le_refl _)), I3.nofs (Nat.le_refl _), .inr I3.sz, fun y c e z => ?_, fun p hp z => ?_⟩
      · obtain ⟨v, o, ho, _⟩ := I3.cell y c e
        exact absurd (Heap.lt_size ho) (by rw [z]; exact Nat.lt_irrefl _)
      · exact absurd (Heap.lt_size (I3.pin p hp).1) (by rw [z]; exact Nat.lt_irrefl _)
    · refine thn (T.item (cxComp X sc N' cl s3.heap.objs.size s3 (upd H s.heap.objs.size (.lst [])) fp) rfl rfl rfl hc i [] s5 σ' Hc _ J5 (fin0 fr5) st5 go) fun r s6 ⟨u, hr, h6⟩ => ?_
      subst hr
      refine thn h6 fun _ s7 ⟨v, H7, J7, r7, y7, st7, fr7⟩ => ?_
      have J7' := J7.pinned (fin0 fr7) (T.obj _ _ st7)
      refine wpAny_assign_Name (store_ok (X := cxComp X sc N' cl s3.heap.objs.size s3 (upd H s.heap.objs.size (.lst [])) fp) (i := 0) (v := v) J7' cp.nd cp.n0 (.inl (lookup_relabel_local cp.var)) r7 (fun s8 J8 => ?_) (.inr (lookup_relabel_local cp.var)))
      have more : ∀ {H' : Hp} {s' : Shared} {m' : Nat}, Inv (cxComp X sc N' cl s3.heap.objs.size s3 (upd H s.heap.objs.size (.lst [])) fp) ([] ++ pinsAt fp s7.heap) (σ'.set 0 (some v)) H' s' → m' < n → W (i + 1) m' H' →
          ∃ m, m < n ∧ ∃ i Hc, Inv (cxComp X sc N' cl s3.heap.objs.size s3 (upd H s.heap.objs.size (.lst [])) fp) [] σ' Hc s' ∧ tn i s'.heap ∧ (∀ b ∈ fp, Hc b = none) ∧ W i m Hc := fun {H' s' m'} J' hm w' => by
        refine ⟨m', hm, i + 1, H', J'.unpinned.weak (by simp) (fun k z e => ?_), T.keep _ _ _ st7 fun b hb o e => (J'.pin (b, o) (List.mem_append_right _ (List.mem_append_right _ (mem_pinsAt hb e)))).1, fun b hb => ?_, w'⟩
        · by_cases hk : k = 0
          · subst hk; rw [cp.s0] at e; cases e
          · rw [List.getElem?_set_ne (Ne.symm hk)]; exact e
        · obtain ⟨o, e, d⟩ := T.obj _ _ st7 b hb
          exact (J'.pin (b, o) (List.mem_append_right _ (List.mem_append_right _ (mem_pinsAt hb e)))).2.1
      refine thn (hi _ _ _ _ _ s8 _ H7 _ J8 (step v H7 y7)) fun ok s9 ⟨H9, J9, q9⟩ => ?_
      cases ok with
      | false =>
        rw [if_neg Bool.false_ne_true] at q9 ⊢
        obtain ⟨m', hm, w'⟩ := q9
        exact more J9 hm w'
      | true =>
        rw [if_pos rfl] at q9 ⊢
        refine thn (he _ _ _ _ _ s9 _ H9 _ J9 q9) fun xv s10 ⟨y, H10, J10, r10, xs, hD10, hlt, m', hm, w'⟩ => ?_
        refine thn (mt_append (X := cxComp X sc N' cl s3.heap.objs.size s3 (upd H s.heap.objs.size (.lst [])) fp) _ s10 _ H10 (.ref s.heap.objs.size) [y] (.ref s.heap.objs.size) [xv] (fun _ H' => H' = upd H10 s.heap.objs.size (.lst (xs ++ [y]))) J10 rfl (.cons r10 .nil) ⟨_, xs, y, rfl, rfl, hD10, hlt, rfl⟩) fun _ s11 ⟨_, H11, J11, _, e11⟩ => ?_
        subst e11
        exact more J11 hm w'
  exact codeAny_compStart_list (loop _ rfl) (T.self _ 0 _ _ _ st1 (loop _ rfl))

/-- an element, a test, within the block -/
def WEc (X : Cx) (sc : Scope) (N' : List Str) (e : Expr) : TE := fun σ H Q => ∀ cl C s H0 fp, WE (cxComp X sc N' cl C s H0 fp) e σ H Q
def WTc (X : Cx) (sc : Scope) (N' : List Str) : List Expr → TT
  | [] => fun _ H Q => Q true H
  | [e] => fun σ H Q => ∀ cl C s H0 fp, WT (cxComp X sc N' cl C s H0 fp) e σ H Q
  | _ => fun _ _ _ => False
theorem pe_c : ∀ cl C s H0 fp, PE (cxComp X sc N' cl C s H0 fp) elt (WEc X sc N' elt) := fun cl C s H0 fp pins s' σ H Q I h => h cl C s H0 fp pins s' I
theorem pt_c : ∀ cl C s H0 fp, PIfs (cxComp X sc N' cl C s H0 fp) ifs (WTc X sc N' ifs) := fun cl C s H0 fp => by
  cases ifs with
  | nil => exact pifs_nil
  | cons c r =>
    cases r with
    | nil => exact pifs_one fun pins s' σ H Q I h => h cl C s H0 fp pins s' I
    | cons d r => exact fun pins s' σ H Q I h => h.elim

/-- [elt for x in iter if ..] as a value -/
theorem we_comp {Q : VK} (N' : List Str) (σ' : St) (hc : X.calm = true) (cp : Caps X sc N' σ σ' x) (q : WI X (.Name x px) iter σ H fun J H1 => ∀ D, H1 D = none → CompW J (WTc X sc N' ifs) (WEc X sc N' elt) σ' Q D H1)
    (hs : ∀ x, foldedSetIterable iter X.env x = pure x := by intro _; rfl) : WE X (.ListComp elt [⟨.Name x px, iter, ifs, 0⟩] sc pos) σ H Q := by
  intro pins s I
  obtain ⟨cl, k1, c1, c2⟩ := closure_ex (env := X.env) sc (fun y hy hf => I.ok.has y.1 (cp.here y hy hf))
  rw [eval_ListComp]
  refine wpAny_comprehension_free (use := none) rfl hs k1 cp.kind cp.names (thn (q pins s I) fun v s1 h1 => thn h1 fun itv s2 h2 => ?_)
  obtain ⟨it, fp, tn, J, H2, e, I2, T, st2, f2, W⟩ := h2
  subst e
  refine comp_block (RR := fun acc C => compPost (model X.prog X.w) X.A X.xe none (EP X pins σ Q) acc C) hc cp I2 T st2 f2 c1 c2 (pe_c cl) (pt_c cl) W ?_
  intro D C H' s' m I' hn fC _ qq
  exact ⟨m, hn, fun h' hs' => ⟨.ref D, H', I'.turned (it := C) (h' := h') (t' := s'.toks) (fun b o hb e => hs'.extBut b o hb e) fC.1 fC.2.1 fC.2.2.2.1 fC.2.2.2.2.1 fC.2.2.2.2.2, rfl, qq⟩⟩
/-- y = [elt for x in iter if ..], y a plain local on the same row -/
theorem ws_setComp (i : Nat) {y : Str} {py spos : Pos} {nx bk ct : NX} {rt : VK} (N' : List Str) (σ' : St) (hN : X.N.Nodup) (hc : X.calm = true) (cp : Caps X sc N' σ σ' x)
    (q : WI X (.Name x px) iter σ H fun J H1 => ∀ D, H1 D = none → CompW J (WTc X sc N' ifs) (WEc X sc N' elt) σ' (fun v H2 => nx (σ.set i (some v)) H2) D H1)
    (hi : X.N[i]? = some y := by rfl) (hy : X.env.scope.names.lookup y = some .local := by rfl)
    (hsw : swapsWith (.ListComp elt [⟨.Name x px, iter, ifs, 0⟩] sc pos) (some (.Name y py)) spos.line X.env = pure true := by rfl)
    (hs : ∀ x, foldedSetIterable iter X.env x = pure x := by intro _; rfl) : WS X (.Assign [.Name y py] (.ListComp elt [⟨.Name x px, iter, ifs, 0⟩] sc pos) spos) nx rt bk ct σ H := by
  intro pins s I
  obtain ⟨cl, k1, c1, c2⟩ := closure_ex (env := X.env) sc (fun y hy hf => I.ok.has y.1 (cp.here y hy hf))
  rw [exec_Assign_Name_used _ _ _ _ hsw]
  refine wpAny_bind (wpAny_standAt (wpAny_bind ?_))
  show wpAny _ X.A (do let _ ← comprehension (.ListComp elt [⟨.Name x px, iter, ifs, 0⟩] sc pos) sc X.env _ (newList []) false (eval iter X.env) (some (assign (.Name y py) X.env))) _ _ s
  refine wpAny_bind (wpAny_mono (wpAny_comprehension_free (use := some (assign (.Name y py) X.env)) (Q := fun _ s' => SP X pins ⟨nx, rt, bk, ct⟩ .next s') rfl hs k1 cp.kind cp.names
    (thn (q pins s I) fun v s1 h1 => thn h1 fun itv s2 h2 => ?_)) (fun _ s' hq => wpAny_pure (wpAny_pure hq)) fun _ _ e => e)
  obtain ⟨it, fp, tn, J, H2, e, I2, T, st2, f2, W⟩ := h2
  subst e
  refine comp_block (RR := fun acc C => compPost (model X.prog X.w) X.A X.xe (some (assign (.Name y py) X.env)) (fun _ s' => SP X pins ⟨nx, rt, bk, ct⟩ .next s') acc C) hc cp I2 T st2 f2 c1 c2 (pe_c cl) (pt_c cl) W ?_
  intro D C H' s' m I' hn fC _ qq
  show wpAny _ X.A (assign (.Name y py) X.env (.ref D)) _ _ _
  refine wpAny_assign_Name (store_ok2 (v := .ref D) I' hN hi (.inl hy) rfl (fun s3 I3 ⟨a, sb, ha⟩ => ?_) (.inr hy))
  have hCa : C ≠ a := by
    rcases ha with e | e
    · rw [e]; exact fC.2.1
    · exact fun z => fC.2.2.2.2.1 y a e z.symm
  refine ⟨m, hn.sameBut sb hCa, fun h' hs' => ⟨_, H', I3.turned (it := C) (h' := h') (t' := s3.toks) (fun b o hb e => hs'.extBut b o hb e) fC.1 fC.2.1 fC.2.2.2.1 fC.2.2.2.2.1 fC.2.2.2.2.2, qq⟩⟩
end

/-- what must be seen of the text: ON the names around, js the slots that the block reads -/
def CapsP (ON : List Str) (osc sc : Scope) (x : Str) (js : List Nat) : Prop :=
  sc.kind = .function ∧ (∀ y ∈ sc.names, y.2 ≠ .cell) ∧ (∀ y ∈ sc.names, y.2 = .free → (osc.names.lookup y.1 = some .cell ∨ osc.names.lookup y.1 = some .free)) ∧ (∀ y ∈ sc.names, y.2 = .local → sc.names.lookup y.1 = some .local) ∧
    sc.names.lookup x = some .local ∧ (x :: js.map fun j => ON.getD j "").Nodup ∧ ∀ j ∈ js, j < ON.length ∧ sc.names.lookup (ON.getD j "") = some .free
instance (ON : List Str) (osc sc : Scope) (x : Str) (js : List Nat) : Decidable (CapsP ON osc sc x js) := by unfold CapsP; infer_instance
abbrev capN (ON : List Str) (x : Str) (js : List Nat) : List Str := x :: js.map fun j => ON.getD j ""
abbrev capS (σ : St) (js : List Nat) : St := none :: js.map fun j => (σ[j]?).getD none
theorem caps_of {X : Cx} {ON : List Str} {osc sc : Scope} {x : Str} {js : List Nat} {σ : St} (hN : X.N = ON) (ho : X.env.scope = osc) (c : CapsP ON osc sc x js) : Caps X sc (capN ON x js) σ (capS σ js) x := by
  obtain ⟨c1, c2, c3, c4, c5, c6, c7⟩ := c
  subst hN ho
  refine ⟨c1, c2, c3, c4, c5, c6, rfl, rfl, by simp, fun i y v e1 e2 => ?_⟩
  cases i with
  | zero => cases e2
  | succ i =>
    have e1 : (js.map fun j => X.N.getD j "")[i]? = some y := by simpa using e1
    have e2 : (js.map fun j => (σ[j]?).getD none)[i]? = some (some v) := by simpa using e2
    rw [List.getElem?_map] at e1 e2
    cases hj : js[i]? with
    | none => rw [hj] at e1; cases e1
    | some j =>
      rw [hj] at e1 e2
      have e1 : X.N.getD j "" = y := Option.some.inj e1
      have e2 : (σ[j]?).getD none = some v := Option.some.inj e2
      obtain ⟨k1, k2⟩ := c7 j (List.mem_of_getElem? hj)
      rw [e1] at k2
      refine ⟨k2, j, ?_, ?_⟩
      · rw [← e1, List.getD_eq_getElem?_getD, List.getElem?_eq_getElem k1]; rfl
      · cases hs : σ[j]? with
        | none => rw [hs] at e2; cases e2
        | some o => rw [hs] at e2; rw [← e2]; rfl
section
variable {X : Cx} {σ : St} {H : Hp} {elt iter : Expr} {ifs : List Expr} {x : Str} {px pos : Pos} {sc osc : Scope} {ON : List Str} {Q : VK}
theorem we_compJ (ON : List Str) (osc : Scope) (js : List Nat) (cp : CapsP ON osc sc x js)
    (q : WI X (.Name x px) iter σ H fun J H1 => ∀ D, H1 D = none → CompW J (WTc X sc (capN ON x js) ifs) (WEc X sc (capN ON x js) elt) (capS σ js) Q D H1)
    (hc : X.calm = true := by rfl) (hN : X.N = ON := by rfl) (ho : X.env.scope = osc := by rfl)
    (hs : ∀ x, foldedSetIterable iter X.env x = pure x := by intro _; rfl) : WE X (.ListComp elt [⟨.Name x px, iter, ifs, 0⟩] sc pos) σ H Q := we_comp _ _ hc (caps_of hN ho cp) q hs
theorem ws_setCompJ (i : Nat) {y : Str} {py spos : Pos} {nx bk ct : NX} {rt : VK} (ON : List Str) (osc : Scope) (js : List Nat) (hND : X.N.Nodup) (cp : CapsP ON osc sc x js)
    (q : WI X (.Name x px) iter σ H fun J H1 => ∀ D, H1 D = none → CompW J (WTc X sc (capN ON x js) ifs) (WEc X sc (capN ON x js) elt) (capS σ js) (fun v H2 => nx (σ.set i (some v)) H2) D H1)
    (hc : X.calm = true := by rfl) (hN : X.N = ON := by rfl) (ho : X.env.scope = osc := by rfl) (hi : X.N[i]? = some y := by rfl) (hy : X.env.scope.names.lookup y = some .local := by rfl)
    (hsw : swapsWith (.ListComp elt [⟨.Name x px, iter, ifs, 0⟩] sc pos) (some (.Name y py)) spos.line X.env = pure true := by rfl)
    (hs : ∀ x, foldedSetIterable iter X.env x = pure x := by intro _; rfl) : WS X (.Assign [.Name y py] (.ListComp elt [⟨.Name x px, iter, ifs, 0⟩] sc pos) spos) nx rt bk ct σ H := ws_setComp i _ _ hND hc (caps_of hN ho cp) q hi hy hsw hs
end

/-! ### the forms one uses -/
section
variable {ti : TT} {te : TE} {σ' : St} {Q : VK} {D : Addr} {H : Hp}
/-- over a list that stays, by an invariant of the turn, the list made so far, the heap -/
theorem compW_list {K : PySem.W.Frag} {l : Addr} {xs : List V} (Pv : Nat → List V → Hp → Prop) (h0 : Pv 0 [] (upd H D (.lst []))) (hl : ∀ i ys H, i ≤ xs.length → Pv i ys H → H D = some (.lst ys) → SqL K H l xs)
    (hs : ∀ i x ys H, xs[i]? = some x → Pv i ys H → H D = some (.lst ys) → ti (σ'.set 0 (some x)) H fun k H2 =>
      if k = true then te (σ'.set 0 (some x)) H2 fun v H3 => H3 D = some (.lst ys) ∧ ys.length < sizeLine ∧ Pv (i + 1) (ys ++ [v]) (upd H3 D (.lst (ys ++ [v])))
      else H2 D = some (.lst ys) ∧ Pv (i + 1) ys H2)
    (mt : ∀ σ H (Q Q' : Bool → Hp → Prop), (∀ b H, Q b H → Q' b H) → ti σ H Q → ti σ H Q') (me : ∀ σ H (Q Q' : VK), (∀ b H, Q b H → Q' b H) → te σ H Q → te σ H Q')
    (hd : ∀ ys H, Pv xs.length ys H → H D = some (.lst ys) → Q (.ref D) H) : CompW (Itl K l) ti te σ' Q D H := by
  refine ⟨fun i m H => m = xs.length - i ∧ i ≤ xs.length ∧ ∃ ys, H D = some (.lst ys) ∧ Pv i ys H, ⟨_, rfl, Nat.zero_le _, [], upd_same, h0⟩, ?_⟩
  rintro i m H ⟨rfl, hi, ys, hD, p⟩
  have q := hl i ys H hi p hD
  by_cases hlt : i < xs.length
  · refine .inr ⟨⟨xs, xs[i], q, by simp [hlt]⟩, fun x H' y => ?_⟩
    obtain ⟨e, y⟩ := y
    subst e
    refine mt _ _ _ _ (fun k H2 z => ?_) (hs i x ys _ (y xs q) p hD)
    cases k with
    | true =>
      rw [if_pos rfl] at z ⊢
      exact me _ _ _ _ (fun v H3 ⟨z1, z2, z3⟩ => ⟨ys, z1, z2, _, by omega, rfl, hlt, _, upd_same, z3⟩) z
    | false =>
      rw [if_neg Bool.false_ne_true] at z ⊢
      exact ⟨_, by omega, rfl, hlt, ys, z.1, z.2⟩
  · have e : i = xs.length := by omega
    subst e
    exact .inl ⟨⟨xs, q, Nat.le_refl _⟩, hd ys H p hD⟩
end
section
variable {X : Cx} {sc : Scope} {N' : List Str}
theorem WT.mono {e : Expr} {σ : St} {H : Hp} {Q Q' : Bool → Hp → Prop} (h : WT X e σ H Q) (m : ∀ v H', Q v H' → Q' v H') : WT X e σ H Q' := fun pins s I => thn (h pins s I) fun u s' ⟨H', I', q⟩ => ⟨H', I', m u H' q⟩
theorem WEc.mono (e : Expr) : ∀ σ H (Q Q' : VK), (∀ b H, Q b H → Q' b H) → WEc X sc N' e σ H Q → WEc X sc N' e σ H Q' := fun σ H Q Q' m h cl C s H0 fp => (h cl C s H0 fp).mono m
theorem WTc.mono (ifs : List Expr) : ∀ σ H (Q Q' : Bool → Hp → Prop), (∀ b H, Q b H → Q' b H) → WTc X sc N' ifs σ H Q → WTc X sc N' ifs σ H Q' := fun σ H Q Q' m h => by
  cases ifs with
  | nil => exact m _ _ h
  | cons c r =>
    cases r with
    | nil => exact fun cl C s H0 fp => WT.mono (h cl C s H0 fp) m
    | cons d r => exact h.elim
variable {elt : Expr} {ifs : List Expr} {σ' : St} {Q : VK} {H : Hp}
/-- each item x by itself to f x; what is made besides is dropped -/
theorem compP_list {K : PySem.W.Frag} {l : Addr} {xs : List V} (f : V → V) (p : V → Bool) (hl : SqL K H l xs) (hz : xs.length ≤ 1000)
    (hs : ∀ x H1, x ∈ xs → Same H H1 → WTc X sc N' ifs (σ'.set 0 (some x)) H1 fun k H2 => Same H1 H2 ∧ k = p x ∧ (p x = true → WEc X sc N' elt (σ'.set 0 (some x)) H2 fun v H3 => Same H2 H3 ∧ v = f x))
    (hd : ∀ D H', H D = none → Same H H' → H' D = some (.lst ((xs.filter p).map f)) → Q (.ref D) H') (D : Addr) (hD : H D = none) : CompW (Itl K l) (WTc X sc N' ifs) (WEc X sc N' elt) σ' Q D H := by
  refine compW_list (xs := xs) (fun i ys H' => i ≤ xs.length ∧ Same H H' ∧ ys = ((xs.take i).filter p).map f) ⟨Nat.zero_le _, same_upd hD _, by simp⟩ (fun i ys H' _ q _ => q.2.1.seq hl) (fun i x ys H1 hx q hD1 => ?_) (WTc.mono _) (WEc.mono _) (fun ys H' q hD' => ?_)
  · obtain ⟨hi, hS, rfl⟩ := q
    have hx' : i < xs.length := (List.getElem?_eq_some_iff.mp hx).1
    have et : xs.take (i + 1) = xs.take i ++ [x] := by rw [List.take_add_one, hx]; rfl
    refine WTc.mono _ _ _ _ _ (fun k H2 ⟨s2, ek, z⟩ => ?_) (hs x H1 (List.mem_of_getElem? hx) hS)
    subst ek
    cases hp : p x with
    | true =>
      rw [if_pos rfl]
      refine WEc.mono _ _ _ _ _ (fun v H3 ⟨s3, ev⟩ => ?_) (z hp)
      subst ev
      have hD3 := s3 _ _ (s2 _ _ hD1)
      refine ⟨hD3, ?_, hx', fun b o e => ?_, ?_⟩
      · refine small1000 ?_
        rw [List.length_map]
        exact Nat.le_trans (List.length_filter_le _ _) (Nat.le_trans (by rw [List.length_take]; exact Nat.min_le_right _ _) hz)
      · rw [upd_ne (ne_of_none e hD)]; exact s3 _ _ (s2 _ _ (hS _ _ e))
      · rw [et, List.filter_append, List.map_append]; simp [hp]
    | false =>
      rw [if_neg Bool.false_ne_true]
      refine ⟨s2 _ _ hD1, hx', hS.trans s2, ?_⟩
      rw [et, List.filter_append, List.map_append]; simp [hp]
  · obtain ⟨_, hS, rfl⟩ := q
    rw [List.take_length] at hD'
    exact hd D H' hD hS hD'
end
end L2

/-! part Ext3 -/
set_option Elab.async false
set_option linter.all false
set_option maxRecDepth 100000
set_option maxHeartbeats 4000000
/-! MY OWN LAYER 3: more of Python's own: isinstance, sorted, set, all, any, range, insert, == of lists -/
namespace L2
open PySem PySem.Spec PyProof.Rows

section
variable {X : Cx}
theorem vals_get : ∀ (ns : List Int) (vs : List Value), vs.length = ns.length → (∀ (j : Nat) (v : Value) (n : Int), vs[j]? = some v → ns[j]? = some n → ∃ t, v = .int n t) → Vals (ns.map V.int) vs
  | [], [], _, _ => .nil
  | [], _ :: _, h, _ => by simp at h
  | _ :: _, [], h, _ => by simp at h
  | n :: ns, v :: vs, h, k => .cons (k 0 v n rfl rfl) (vals_get ns vs (by simpa using h) fun j v' n' a b => k (j + 1) v' n' (by simpa using a) (by simpa using b))
/-! ### isinstance -/
theorem call_isinst : CallR X (.builtin "isinstance") (fun xs H Q => ∃ x c t b, xs = [x, .ty c] ∧ TyOf X.K H x t ∧ PySem.W.kitOne X.K t (.type c) = some b ∧ Q (.bl b) H) := by
  intro pins s σ H xs us Q I r h
  obtain ⟨x, c, t, b, rfl, ty, e, q⟩ := h
  obtain ⟨u, v, rfl, rx, rc⟩ := vals2 r
  cases (show v = Value.type c from rc)
  exact isinst_ok I rx ty e fun tk => ⟨.bl b, H, I.tok tk, rfl, q⟩
theorem kit_int_int (K : PySem.W.Frag) : PySem.W.kitOne K (.type "int") (.type "int") = some true := if_pos (by decide +kernel)
theorem kit_int_bool (K : PySem.W.Frag) : PySem.W.kitOne K (.type "int") (.type "bool") = some false := by
  show (if ((Value.type "int") == (Value.type "bool")) = true then some true else if PySem.W.kitMeta "bool" = true then (PySem.fastBuiltinMro "int").map (·.contains (.type "bool")) else none) = some false
  decide +kernel
theorem kit_list_list (K : PySem.W.Frag) : PySem.W.kitOne K (.type "list") (.type "list") = some true := if_pos (by decide +kernel)
/-! ### sorted -/
theorem call_sorted : CallR X (.builtin "sorted") (fun xs H Q => ∃ (p : Addr) (ns : List Int), xs = [.ref p] ∧ SqL X.K H p (ns.map V.int) ∧ ns.length < 64 ∧
    ∀ (l : Addr) (ns' : List Int), H l = none → ns'.Perm ns → ns'.Pairwise (· ≤ ·) → Q (.ref l) (upd H l (.lst (ns'.map V.int)))) := by
  intro pins s σ H xs us Q I r h
  obtain ⟨p, ns, rfl, hq, hz, q⟩ := h
  obtain ⟨u, rfl, rx⟩ := vals1 r
  cases rx
  obtain ⟨its, rv, pl, hl⟩ := I.list hq
  have hI : IntsAre its ns := intsAre_of rv
  have hlen := IntsAre.length hI
  refine sorted_ints pl.isList hI (by omega) fun out ns' a1 a2 a3 => ?_
  obtain ⟨e, he⟩ := sortedAll_at s.heap its out
  have hn : H (s.heap.objs.size + 1) = none := I.hok.fresh (Nat.le_succ _)
  refine ⟨.ref (s.heap.objs.size + 1), _, I.laid (t' := s.toks) (a := s.heap.objs.size + 1) (o := .lst (ns'.map V.int)) (fun b o => sortedAll_old) (Nat.le_succ _) ?_, rfl, q _ ns' hn a2 a3⟩
  refine ⟨?_, out.toList, e, vals_ints a1, by simpa [seqObj] using he⟩
  rw [List.length_map, a2.length_eq]
  exact Nat.le_of_lt (small1000 (by omega))

/-! ### set(list), len of it -/
/-- how many unlike ones -/
def unl (ns : List Int) : Nat := (firstMet (fun i => ns.getD i 0) ns.length).length
theorem call_set (hc : X.calm = true) : CallR X (.type "set") (fun xs H Q => ∃ (p : Addr) (ns : List Int), xs = [.ref p] ∧ SqL X.K H p (ns.map V.int) ∧ ns.length < 1000 ∧ ∀ l S, H l = none → Q (.ref l) (upd H l (.set S (unl ns)))) := by
  intro pins s σ H xs us Q I r h
  obtain ⟨p, ns, rfl, hq, hz, q⟩ := h
  obtain ⟨u, rfl, rx⟩ := vals1 r
  cases rx
  obtain ⟨its, rv, pl, hl⟩ := I.list hq
  have hI : IntsAre its ns := intsAre_of rv
  have hlen := IntsAre.length hI
  refine call_set_list (items := its.toArray) (ns := ns) (I.ok.hd hc) pl.isList (by simpa using hI) (by rw [List.size_toArray]; unfold scanBound; omega) fun h' tk hS hk => ?_
  have es : its.toArray.size = ns.length := by simpa using hlen
  rw [es] at hS
  refine ⟨.ref s.heap.objs.size, _, I.laid (t' := tk) (a := s.heap.objs.size) (o := .set _ (unl ns)) (fun b o e => hk b o (Heap.lt_size e) e) (Nat.le_refl _) hS, rfl, q _ _ I.fresh⟩
theorem call_len_set' : CallR X (.builtin "len") (fun xs H Q => ∃ p S n, xs = [.ref p] ∧ H p = some (.set S n) ∧ Q (.int n) H) := by
  intro pins s σ H xs us Q I r h
  obtain ⟨p, S, n, rfl, hp, q⟩ := h
  obtain ⟨u, rfl, rx⟩ := vals1 r
  cases rx
  obtain ⟨o, es, ep, t, ho, hx, hd, _, _, hb, hf, hn⟩ := (show s.heap.SetOf (intKind X.prog X.w) p S n from I.hok p _ hp)
  subst hn
  exact PySem.call_len_set ho hx hd hf (by unfold scanBound at hb; omega) ⟨.int es.size, H, I.tok _, ⟨_, rfl⟩, q⟩

/-! ### all, any of a list of bools -/
theorem get_bl {bs : List Bool} {its : List Value} (r : Vals (bs.map V.bl) its) : ∀ (i : Nat) (v : Value), its[i]? = some v → v = .bool (bs.getD i true) := fun i v e => by
  have hl := r.length
  have hi : i < its.length := (List.getElem?_eq_some_iff.mp e).1
  rw [List.length_map] at hl
  have hb : i < bs.length := by omega
  obtain ⟨u, hu, ru⟩ := r.get (i := i) (x := .bl bs[i]) (by rw [List.getElem?_map, List.getElem?_eq_getElem hb]; rfl)
  rw [e] at hu
  cases hu
  have : v = Value.bool bs[i] := ru
  rw [this, List.getD_eq_getElem?_getD, List.getElem?_eq_getElem hb]
  rfl
theorem all_range (bs : List Bool) : (List.range bs.length).all (fun i => bs.getD i true) = bs.all id := by
  induction bs with
  | nil => rfl
  | cons b r ih =>
    rw [List.length_cons, List.range_succ_eq_map, List.all_cons, List.all_map, List.all_cons, ← ih]
    rfl
theorem call_all (hc : X.calm = true) : CallR X (.builtin "all") (fun xs H Q => ∃ (p : Addr) (bs : List Bool), xs = [.ref p] ∧ SqL X.K H p (bs.map V.bl) ∧ Q (.bl (bs.all id)) H) := by
  intro pins s σ H xs us Q I r h
  obtain ⟨p, bs, rfl, hq, q⟩ := h
  obtain ⟨u, rfl, rx⟩ := vals1 r
  cases rx
  obtain ⟨its, rv, pl, hl⟩ := I.list hq
  have hlen := rv.length
  rw [List.length_map] at hlen
  have plt : p < s.heap.objs.size := by obtain ⟨o, n, e, _⟩ := pl; exact Heap.lt_size e
  have hne : p ≠ s.heap.objs.size := Nat.ne_of_lt plt
  refine call_all_walk (wpAny_pyIter_list pl.isList ?_)
  refine ⟨s.heap.objs.size, _, _, _, _, _, fun i => bs.getD i true, rfl, Walks.list (show X.A.in1.handled = none from I.ok.hd hc) s.heap.objs.size p hne its.toArray, ⟨⟨_, Heap.get?_push_size _ rfl, rfl, rfl⟩, ?_⟩, ?_, ?_⟩
  · exact pl.isList.at fun o e => Heap.get?_push_of_some _ e
  · intro i v s' Q' E' hP hQ
    have hP' : its[i]? = some v := by simpa using hP
    rw [get_bl rv i v hP']
    exact wpAny_truthy_bool hQ
  · intro h' tk hk
    have I1 : Inv X pins σ H { s with heap := h', toks := tk } := I.kept (t' := tk) fun b o e => hk b o (by simp; exact Nat.ne_of_lt (Heap.lt_size e)) (Heap.get?_push_of_some _ e)
    refine ⟨.bl _, H, I1, rfl, ?_⟩
    rw [List.size_toArray, ← hlen, all_range]
    exact q
/-! ### range objects, list(range(..)) -/
def RngO (p : Addr) (a b c : Int) : HO := .ext fun h => ∃ t u v, IsRange h p a b c t u v
theorem rngO_ok {H : Hp} {h : Heap} {p : Addr} {a b c : Int} {t u v : Tok} (e : h.get? p = some { cls := .type "range", data := .fields #[.int a t, .int b u, .int c v] }) : ObjOk X.prog X.w H h p (RngO p a b c) :=
  ⟨⟨t, u, v, e⟩, ⟨_, e⟩, fun h1 h2 ⟨t, u, v, e⟩ k => ⟨t, u, v, k _ e⟩⟩
theorem call_range1 : CallR X (.type "range") (fun xs H Q => ∃ b, xs = [.int b] ∧ ∀ p, H p = none → Q (.ref p) (upd H p (RngO p 0 b 1))) := by
  intro pins s σ H xs us Q I r h
  obtain ⟨b, rfl, q⟩ := h
  obtain ⟨u, rfl, t, rfl⟩ := vals1 r
  exact call_range_1 ⟨.ref s.heap.objs.size, _, I.laid (fun b o e => Heap.get?_push_of_some _ e) (Nat.le_refl _) (rngO_ok (Heap.get?_push_size _ rfl)), rfl, q _ I.fresh⟩
theorem call_range2 : CallR X (.type "range") (fun xs H Q => ∃ a b, xs = [.int a, .int b] ∧ ∀ p, H p = none → Q (.ref p) (upd H p (RngO p a b 1))) := by
  intro pins s σ H xs us Q I r h
  obtain ⟨a, b, rfl, q⟩ := h
  obtain ⟨u, v, rfl, ⟨t, rfl⟩, ⟨t', rfl⟩⟩ := vals2 r
  exact call_range_2 ⟨.ref s.heap.objs.size, _, I.laid (fun b o e => Heap.get?_push_of_some _ e) (Nat.le_refl _) (rngO_ok (Heap.get?_push_size _ rfl)), rfl, q _ I.fresh⟩
theorem call_list_rng (hc : X.calm = true) : CallR X (.type "list") (fun xs H Q => ∃ (p : Addr) (a b c : Int) (n : Nat), xs = [.ref p] ∧ H p = some (RngO p a b c) ∧ Builtin.Range.small a b c = true ∧ Builtin.Range.rangeSize a b c = (n : Int) ∧ n ≤ 1000 ∧
    ∀ l, H l = none → Q (.ref l) (upd H l (.lst ((rangeInts a c n).map V.int)))) := by
  intro pins s σ H xs us Q I r h
  obtain ⟨p, a, b, c, n, rfl, hp, hs, hn, hz, q⟩ := h
  obtain ⟨u, rfl, rx⟩ := vals1 r
  cases rx
  obtain ⟨⟨t, u, v, e⟩, _, _⟩ := (show ObjOk X.prog X.w H s.heap p (RngO p a b c) from I.hok p _ hp)
  refine call_list_range (I.ok.hd hc) e hs hn (Nat.le_trans hz (by decide)) fun h' tk acc' c' hk hS hacc => ?_
  refine ⟨.ref s.heap.objs.size, _, I.laid (t' := tk) (o := .lst ((rangeInts a c n).map V.int)) hk (Nat.le_refl _) ⟨?_, acc'.toList, c', ?_, by simpa using hS⟩, rfl, q _ I.fresh⟩
  · rw [List.length_map, rangeInts_length]; exact Nat.le_of_lt (small1000 hz)
  · refine vals_get _ _ (by simp [hacc.1, rangeInts_length]) fun j v k hv hk' => ?_
    have hv' : acc'[j]? = some v := by simpa using hv
    obtain ⟨t, rfl⟩ := hacc.2 j v hv'
    have hj : j < n := by
      have := (Array.getElem?_eq_some_iff.mp hv').1
      rw [hacc.1] at this; exact this
    rw [rangeInts_get hj] at hk'
    cases hk'
    exact ⟨t, rfl⟩

/-! ### list.insert -/
def insAt (xs : List V) (k : Nat) (y : V) : List V := xs.take k ++ y :: xs.drop k
def rInsert : V → List V → Hp → VK → Prop := fun x vs H Q => ∃ l xs i y, x = .ref l ∧ vs = [.int i, y] ∧ H l = some (.lst xs) ∧ 0 ≤ i ∧ i < 2 ^ 62 ∧ xs.length < sizeLine ∧ Q .non (upd H l (.lst (insAt xs (min i.toNat xs.length) y)))
theorem mt_insert : MtM X "list.insert" rInsert := by
  intro pins s σ H x vs v us Q I rx rv h
  obtain ⟨l, xs, i, y, rfl, rfl, hH, h0, h1, hz, q⟩ := h
  cases rx
  obtain ⟨u, u2, rfl, ⟨t, rfl⟩, ry⟩ := vals2 rv
  obtain ⟨z, its, n, r, hl, e⟩ := I.lstM hH
  have hf : Builtin.List.listFitsIndex i = true := by unfold Builtin.List.listFitsIndex; simp; omega
  refine call_meets F.slot_list_insert ⟨_, e, rfl⟩ F.entry_list_insert (F.args_list_insert_3 _ _ _) (AutoSeq1.list_insert_list_int_val_1 l its.toArray n i t u2 (by simp [hf]) (by rw [List.size_toArray]; omega)) ⟨e, ?_⟩
  refine ⟨.non, _, I.lset (its' := its.take (min i.toNat xs.length) ++ u2 :: its.drop (min i.toNat xs.length)) hH e ?_ ?_ ?_, rfl, q⟩
  · show (its.toArray.extract 0 (if i < 0 then (i + (its.toArray.size : Int)).toNat else min i.toNat its.toArray.size)).push u2 ++ its.toArray.extract (if i < 0 then (i + (its.toArray.size : Int)).toNat else min i.toNat its.toArray.size) = _
    rw [if_neg (by omega), List.size_toArray, ← hl]
    simp
    exact List.take_of_length_le (by rw [List.length_drop]; omega)
  · exact (r.take _).append (.cons ry (r.drop _))
  · unfold insAt
    rw [List.length_append, List.length_cons, List.length_take, List.length_drop]
    omega

/-! ### a value read as plain data: == and != of lists and tuples, at any depth -/
mutual
inductive Dv (K : PySem.W.Frag) (H : Hp) : V → PyData → Prop
  | non : Dv K H .non .none
  | bl (b : Bool) : Dv K H (.bl b) (.bool b)
  | int (i : Int) : Dv K H (.int i) (.int i)
  | str (x : Str) : Dv K H (.str x) (.str x)
  | list {a : Addr} {xs : List V} {ds : List PyData} : SqL K H a xs → Dvs K H xs ds → Dv K H (.ref a) (.list ds)
  | tup {a : Addr} {xs : List V} {ds : List PyData} : SqT K H a xs → Dvs K H xs ds → Dv K H (.ref a) (.tuple ds)
inductive Dvs (K : PySem.W.Frag) (H : Hp) : List V → List PyData → Prop
  | nil : Dvs K H [] []
  | cons {x : V} {xs : List V} {d : PyData} {ds : List PyData} : Dv K H x d → Dvs K H xs ds → Dvs K H (x :: xs) (d :: ds)
end
mutual
theorem Dv.reads {pins : List (Addr × Obj)} {σ : St} {H : Hp} {s : Shared} (I : Inv X pins σ H s) : ∀ {x : V} {d : PyData} {u : Value}, Dv X.K H x d → RelV x u → ∃ as, Reads s.heap u d as
  | _, _, _, .non, r => by cases r; exact ⟨_, .none⟩
  | _, _, _, .bl b, r => by cases r; exact ⟨_, .bool b⟩
  | _, _, _, .int i, r => by obtain ⟨t, rfl⟩ := r; exact ⟨_, .int i t⟩
  | _, _, _, .str x, r => by obtain ⟨t, rfl⟩ := r; exact ⟨_, .str x t⟩
  | _, _, _, .list h t, r => by
    cases r
    obtain ⟨its, rv, pl, _⟩ := I.list h
    obtain ⟨o, e, hc, n, hd⟩ := pl.isList
    obtain ⟨as, q⟩ := Dvs.reads I t rv
    exact ⟨_, .list e hc hd (by simpa using q)⟩
  | _, _, _, .tup h t, r => by
    cases r
    obtain ⟨its, rv, pl, _⟩ := I.tuple h
    obtain ⟨o, e, hc, _, hd⟩ := pl
    obtain ⟨as, q⟩ := Dvs.reads I t rv
    exact ⟨_, .tuple e hc hd (by simpa using q)⟩
theorem Dvs.reads {pins : List (Addr × Obj)} {σ : St} {H : Hp} {s : Shared} (I : Inv X pins σ H s) : ∀ {xs : List V} {ds : List PyData} {us : List Value}, Dvs X.K H xs ds → Vals xs us → ∃ as, ReadsAll s.heap us ds as
  | _, _, _, .nil, r => by cases r; exact ⟨_, .nil⟩
  | _, _, _, .cons h t, r => by
    cases r with
    | cons r rr =>
      obtain ⟨as, q⟩ := Dv.reads I h r
      obtain ⟨bs, q'⟩ := Dvs.reads I t rr
      exact ⟨_, .cons q q'⟩
end
/-- both are plain data of little depth -/
def rEqD (K : PySem.W.Frag) (neg : Bool) : R2 := fun x y H Q => ∃ d d', Dv K H x d ∧ Dv K H y d' ∧ d.canLay0 = true ∧ d'.canLay0 = true ∧ min d.depth d'.depth ≤ 8 ∧ Q (.bl (if neg then !PyData.eqv d d' else PyData.eqv d d')) H
theorem op_eqD (hu : X.A.units + 8 < cLine) : OpR X (compareOp .Eq) (rEqD X.K false) := by
  intro pins s σ H x y v u Q I rx ry h
  obtain ⟨d, d', h1, h2, c1, c2, hd, q⟩ := h
  obtain ⟨as, r1⟩ := h1.reads I rx
  obtain ⟨bs, r2⟩ := h2.reads I ry
  exact SeqAt.rcAt_reads r1 r2 c1 c2 (by omega) X.prog X.w X.xe _ ⟨.bl _, H, I, rfl, q⟩
theorem op_neD (hu : X.A.units + 8 < cLine) : OpR X (compareOp .NotEq) (rEqD X.K true) := by
  intro pins s σ H x y v u Q I rx ry h
  obtain ⟨d, d', h1, h2, c1, c2, hd, q⟩ := h
  obtain ⟨as, r1⟩ := h1.reads I rx
  obtain ⟨bs, r2⟩ := h2.reads I ry
  exact SeqAt.rcNeAt_reads r1 r2 c1 c2 (by omega) X.prog X.w X.xe _ ⟨.bl _, H, I, rfl, q⟩
end
/-! ### lists of ints, lists of those -/
section
variable {K : PySem.W.Frag} {H : Hp}
theorem dvs_ints (K : PySem.W.Frag) (H : Hp) : ∀ ns : List Int, Dvs K H (ns.map V.int) (ns.map PyData.int)
  | [] => .nil
  | n :: ns => .cons (.int n) (dvs_ints K H ns)
theorem Dv.ints {a : Addr} {ns : List Int} (h : SqL K H a (ns.map V.int)) : Dv K H (.ref a) (.list (ns.map PyData.int)) := .list h (dvs_ints K H ns)
theorem eqv_ints : ∀ ns ms : List Int, PyData.eqvAll (ns.map PyData.int) (ms.map PyData.int) = decide (ns = ms)
  | [], [] => by simp [PyData.eqvAll]
  | [], _ :: _ => by simp [PyData.eqvAll]
  | _ :: _, [] => by simp [PyData.eqvAll]
  | n :: ns, m :: ms => by
    rw [List.map_cons, List.map_cons, PyData.eqvAll, PyData.eqv, eqv_ints ns ms]
    by_cases e : n = m <;> by_cases e' : ns = ms <;> simp [e, e']
theorem lay_ints : ∀ ns : List Int, PyData.canLayAll0 (ns.map PyData.int) = true
  | [] => rfl
  | n :: ns => by rw [List.map_cons, PyData.canLayAll0, lay_ints ns]; rfl
theorem deep_ints : ∀ ns : List Int, PyData.depthAll (ns.map PyData.int) = 0
  | [] => rfl
  | n :: ns => by rw [List.map_cons, PyData.depthAll, deep_ints ns]; rfl
theorem lay_intsL (ns : List Int) : (PyData.list (ns.map PyData.int)).canLay0 = true := by rw [PyData.canLay0]; exact lay_ints ns
theorem deep_intsL (ns : List Int) : (PyData.list (ns.map PyData.int)).depth = 1 := by rw [PyData.depth, deep_ints ns]
theorem eqv_intsL (ns ms : List Int) : PyData.eqv (.list (ns.map PyData.int)) (.list (ms.map PyData.int)) = decide (ns = ms) := by rw [PyData.eqv]; exact eqv_ints ns ms
variable {X : Cx} {a b : Expr} {pos : Pos} {σ : St} {Q : VK} {QB : Bool → Hp → Prop}
/-- == and != of two lists of ints -/
def rEqI (K : PySem.W.Frag) (neg : Bool) : R2 := fun x y H Q => ∃ (l p : Addr) (ns ms : List Int), x = .ref l ∧ y = .ref p ∧ SqL K H l (ns.map V.int) ∧ SqL K H p (ms.map V.int) ∧ Q (.bl (if neg then !decide (ns = ms) else decide (ns = ms))) H
theorem OpR.imp {f : Value → Value → Sem Value} {r r' : R2} (h : OpR X f r) (m : ∀ x y H Q, r' x y H Q → r x y H Q) : OpR X f r' := fun pins s σ H x y v u Q I rx ry q => h pins s σ H x y v u Q I rx ry (m x y H Q q)
theorem op_eqI (hu : X.A.units + 8 < cLine) : OpR X (compareOp .Eq) (rEqI X.K false) := (op_eqD hu).imp fun x y H Q ⟨l, p, ns, ms, e1, e2, h1, h2, q⟩ => by
  subst e1 e2
  refine ⟨_, _, Dv.ints h1, Dv.ints h2, lay_intsL _, lay_intsL _, by rw [deep_intsL]; omega, ?_⟩
  rw [eqv_intsL]; exact q
theorem op_neI (hu : X.A.units + 8 < cLine) : OpR X (compareOp .NotEq) (rEqI X.K true) := (op_neD hu).imp fun x y H Q ⟨l, p, ns, ms, e1, e2, h1, h2, q⟩ => by
  subst e1 e2
  refine ⟨_, _, Dv.ints h1, Dv.ints h2, lay_intsL _, lay_intsL _, by rw [deep_intsL]; omega, ?_⟩
  rw [eqv_intsL]; exact q
theorem we_cmp {op : CmpOp} {r : R2} (ho : OpR X (compareOp op) r) (hm : behindInMarks op b = false) (q : WE X a σ H fun x H1 => WE X b σ H1 fun y H2 => r x y H2 Q) : WE X (.Compare a [op] [b] pos) σ H Q := (pe_cmpR ho peW peW hm).we q
end
end L2

/-! part Ext4 -/
set_option Elab.async false
set_option linter.all false
set_option maxRecDepth 100000
set_option maxHeartbeats 4000000
/-! MY OWN LAYER 4: short forms -/
namespace L2
open PySem PySem.Spec PyProof.Rows

theorem bt_len : bootBuiltins "len" = some (.builtin "len") := by decide +kernel
theorem bt_range : bootBuiltins "range" = some (.type "range") := by decide +kernel
theorem bt_list : bootBuiltins "list" = some (.type "list") := by decide +kernel
theorem bt_set : bootBuiltins "set" = some (.type "set") := by decide +kernel
theorem bt_int : bootBuiltins "int" = some (.type "int") := by decide +kernel
theorem bt_bool : bootBuiltins "bool" = some (.type "bool") := by decide +kernel
theorem bt_sorted : bootBuiltins "sorted" = some (.builtin "sorted") := by decide +kernel
theorem bt_all : bootBuiltins "all" = some (.builtin "all") := by decide +kernel
theorem bt_isinstance : bootBuiltins "isinstance" = some (.builtin "isinstance") := by decide +kernel
theorem bt_max : bootBuiltins "max" = some (.builtin "max") := by decide +kernel
section
variable {X : Cx} {e a b c o : Expr} {es : List Expr} {σ : St} {H : Hp} {Q : VK} {QB : Bool → Hp → Prop} {pos apos cpos p : Pos}
theorem we_len (hm : X.mg "len" = none) (q : WE X e σ H fun x H1 => ∃ l xs, x = .ref l ∧ (SqL X.K H1 l xs ∨ SqT X.K H1 l xs) ∧ Q (.int xs.length) H1) (hg : Gl X "len" := by rfl)
    (he : starEach [e] X.env = (false, eval e X.env) :: starEach [] X.env := by rfl) : WE X (.Call (.Name "len" p) [e] [] pos) σ H Q :=
  we_callB call_len_seq hm bt_len (wa_cons (WE.mono q fun x H1 ⟨l, xs, e, h, k⟩ => wa_nil ⟨l, xs, by rw [e], h, k⟩) he) hg (he := he)
theorem we_append (q : WE X o σ H fun x H1 => ∃ l, x = .ref l ∧ (∃ xs, SqL X.K H1 l xs) ∧ WE X e σ H1 fun y H2 => ∃ xs, H2 l = some (.lst xs) ∧ xs.length < sizeLine ∧ Q .non (upd H2 l (.lst (xs ++ [y]))))
    (hbase : attributeBase o "append" X.env (eval o X.env) = eval o X.env := by rfl)
    (hfew : ((backTo cpos (starEach [e] X.env)).all (fun x => !x.1) && (backToKw cpos (keywordEach [] X.env)).all (fun x => x.1.isSome)
      && decide ([e].length + ([] : List Keyword).length + (if ([] : List Keyword).isEmpty then 0 else 1) < 30)) = true := by rfl)
    (hline : (apos.endLine == cpos.line) = true := by rfl) (hs : starEach [e] X.env = (false, eval e X.env) :: starEach [] X.env := by rfl) (hplain : (backTo cpos (starEach [] X.env)).any (·.1) = false := by rfl) :
    WE X (.Call (.Attribute o "append" apos) [e] [] cpos) σ H Q :=
  we_bm F.plainAttrs_list F.slot_list_append F.type_list_append mt_append (WE.mono q fun x H1 ⟨l, e1, h, k⟩ => ⟨by rw [e1]; exact .inl ⟨rfl, h⟩, wa_cons (WE.mono k fun y H2 ⟨xs, z1, z2, z3⟩ => wa_nil ⟨l, xs, y, e1, rfl, z1, z2, z3⟩) hs⟩) hbase hfew hline hs hplain
/-- l.pop(i), 0 ≤ i -/
theorem we_popAt (q : WE X o σ H fun x H1 => ∃ l, x = .ref l ∧ (∃ xs, SqL X.K H1 l xs) ∧ WE X e σ H1 fun y H2 => ∃ xs i v, y = .int i ∧ H2 l = some (.lst xs) ∧ 0 ≤ i ∧ xs.length ≤ 1000 ∧ xs[i.toNat]? = some v ∧ Q v (upd H2 l (.lst (xs.eraseIdx i.toNat))))
    (hbase : attributeBase o "pop" X.env (eval o X.env) = eval o X.env := by rfl)
    (hfew : ((backTo cpos (starEach [e] X.env)).all (fun x => !x.1) && (backToKw cpos (keywordEach [] X.env)).all (fun x => x.1.isSome)
      && decide ([e].length + ([] : List Keyword).length + (if ([] : List Keyword).isEmpty then 0 else 1) < 30)) = true := by rfl)
    (hline : (apos.endLine == cpos.line) = true := by rfl) (hs : starEach [e] X.env = (false, eval e X.env) :: starEach [] X.env := by rfl) (hplain : (backTo cpos (starEach [] X.env)).any (·.1) = false := by rfl) :
    WE X (.Call (.Attribute o "pop" apos) [e] [] cpos) σ H Q :=
  we_bm F.plainAttrs_list F.slot_list_pop F.type_list_pop mt_popAt (WE.mono q fun x H1 ⟨l, e1, h, k⟩ => ⟨by rw [e1]; exact .inl ⟨rfl, h⟩, wa_cons (WE.mono k fun y H2 ⟨xs, i, v, e2, z1, h0, hz, z2, z3⟩ => by
    have hi : i.toNat < xs.length := (List.getElem?_eq_some_iff.mp z2).1
    have hx : ixN xs.length i = some i.toNat := by unfold ixN; rw [if_pos h0, if_pos (by omega)]
    exact wa_nil ⟨l, xs, i, i.toNat, v, e1, by rw [e2], z1, by omega, by omega, (ixN_seq hx).1, z2, z3⟩) hs⟩) hbase hfew hline hs hplain
/-- l.insert(i, y), 0 ≤ i -/
theorem we_insert (q : WE X o σ H fun x H1 => ∃ l, x = .ref l ∧ (∃ xs, SqL X.K H1 l xs) ∧ WE X a σ H1 fun y H2 => WE X b σ H2 fun z H3 => ∃ xs i, y = .int i ∧ H3 l = some (.lst xs) ∧ 0 ≤ i ∧ i < 2 ^ 62 ∧ xs.length < sizeLine ∧ Q .non (upd H3 l (.lst (insAt xs (min i.toNat xs.length) z))))
    (hbase : attributeBase o "insert" X.env (eval o X.env) = eval o X.env := by rfl)
    (hfew : ((backTo cpos (starEach [a, b] X.env)).all (fun x => !x.1) && (backToKw cpos (keywordEach [] X.env)).all (fun x => x.1.isSome)
      && decide ([a, b].length + ([] : List Keyword).length + (if ([] : List Keyword).isEmpty then 0 else 1) < 30)) = true := by rfl)
    (hline : (apos.endLine == cpos.line) = true := by rfl) (hs : starEach [a, b] X.env = (false, eval a X.env) :: starEach [b] X.env := by rfl) (hs2 : starEach [b] X.env = (false, eval b X.env) :: starEach [] X.env := by rfl)
    (hplain : (backTo cpos (starEach [b] X.env)).any (·.1) = false := by rfl) : WE X (.Call (.Attribute o "insert" apos) [a, b] [] cpos) σ H Q :=
  we_bm F.plainAttrs_list F.slot_list_insert F.type_list_insert mt_insert (WE.mono q fun x H1 ⟨l, e1, h, k⟩ => ⟨by rw [e1]; exact .inl ⟨rfl, h⟩, wa_cons (WE.mono k fun y H2 k2 => wa_cons (WE.mono k2 fun z H3 ⟨xs, i, e2, z1, h0, h1, hz, z3⟩ =>
    wa_nil ⟨l, xs, i, z, e1, by rw [e2], z1, h0, h1, hz, z3⟩) hs2) hs⟩) hbase hfew hline hs hplain
theorem we_sorted (hm : X.mg "sorted" = none) (q : WE X e σ H fun x H1 => ∃ (l : Addr) (ns : List Int), x = .ref l ∧ SqL X.K H1 l (ns.map V.int) ∧ ns.length < 64 ∧ ∀ (r : Addr) (ns' : List Int), H1 r = none → ns'.Perm ns → ns'.Pairwise (· ≤ ·) → Q (.ref r) (upd H1 r (.lst (ns'.map V.int)))) (hg : Gl X "sorted" := by rfl)
    (he : starEach [e] X.env = (false, eval e X.env) :: starEach [] X.env := by rfl) : WE X (.Call (.Name "sorted" p) [e] [] pos) σ H Q :=
  we_callB call_sorted hm bt_sorted (wa_cons (WE.mono q fun x H1 ⟨l, ns, e, h, k⟩ => wa_nil ⟨l, ns, by rw [e], h, k⟩) he) hg (he := he)
theorem we_all (hc : X.calm = true) (hm : X.mg "all" = none) (q : WE X e σ H fun x H1 => ∃ (l : Addr) (bs : List Bool), x = .ref l ∧ SqL X.K H1 l (bs.map V.bl) ∧ Q (.bl (bs.all id)) H1) (hg : Gl X "all" := by rfl)
    (he : starEach [e] X.env = (false, eval e X.env) :: starEach [] X.env := by rfl) : WE X (.Call (.Name "all" p) [e] [] pos) σ H Q :=
  we_callB (call_all hc) hm bt_all (wa_cons (WE.mono q fun x H1 ⟨l, ns, e, h, k⟩ => wa_nil ⟨l, ns, by rw [e], h, k⟩) he) hg (he := he)
/-- len(set(l)) -/
theorem we_lenSet {p2 pos2 : Pos} (hc : X.calm = true) (hm : X.mg "len" = none) (hm2 : X.mg "set" = none) (q : WE X e σ H fun x H1 => ∃ (l : Addr) (ns : List Int), x = .ref l ∧ SqL X.K H1 l (ns.map V.int) ∧ ns.length < 1000 ∧ ∀ H2, Same H1 H2 → Q (.int (unl ns)) H2) (hg : Gl X "len" := by rfl) (hg2 : Gl X "set" := by rfl)
    (he : starEach [e] X.env = (false, eval e X.env) :: starEach [] X.env := by rfl)
    (he2 : starEach [.Call (.Name "set" p2) [e] [] pos2] X.env = (false, eval (.Call (.Name "set" p2) [e] [] pos2) X.env) :: starEach [] X.env := by rfl) : WE X (.Call (.Name "len" p) [.Call (.Name "set" p2) [e] [] pos2] [] pos) σ H Q :=
  we_callB call_len_set' hm bt_len (wa_cons (we_callTy (call_set hc) hm2 bt_set (wa_cons (WE.mono q fun x H1 ⟨l, ns, e, h, hz, k⟩ => wa_nil ⟨l, ns, by rw [e], h, hz, fun r S hr => wa_nil ⟨r, S, unl ns, rfl, upd_same, k _ (same_upd hr _)⟩⟩) he) hg2 (he := he)) he2) hg (he := he2)
theorem we_listOf (hm : X.mg "list" = none) (q : WE X e σ H fun x H1 => ∃ l xs, x = .ref l ∧ (SqL X.K H1 l xs ∨ SqT X.K H1 l xs) ∧ ∀ r, H1 r = none → Q (.ref r) (upd H1 r (.lst xs))) (hg : Gl X "list" := by rfl)
    (he : starEach [e] X.env = (false, eval e X.env) :: starEach [] X.env := by rfl) : WE X (.Call (.Name "list" p) [e] [] pos) σ H Q :=
  we_callTy call_list_of hm bt_list (wa_cons (WE.mono q fun x H1 ⟨l, xs, e, h, k⟩ => wa_nil ⟨l, xs, by rw [e], h, k⟩) he) hg (he := he)
/-- the ints a, a + 1, .. (n of them); a, a - 1, .. -/
def ups (a : Int) (n : Nat) : List Int := (List.range n).map fun i : Nat => a + (i : Int)
theorem ups_eq (a : Int) (n : Nat) : rangeInts a 1 n = ups a n := by unfold rangeInts ups; simp
theorem size_up {a b : Int} (h : a ≤ b) : Builtin.Range.rangeSize a b 1 = (((b - a).toNat : Nat) : Int) := by rw [rangeSize_one]; split <;> omega
theorem size_up' {a b : Int} : Builtin.Range.rangeSize a b 1 = (((b - a).toNat : Nat) : Int) := by rw [rangeSize_one]; split <;> omega
theorem we_listRange1 {p2 pos2 : Pos} (hc : X.calm = true) (hm : X.mg "list" = none) (hm2 : X.mg "range" = none) (q : WE X e σ H fun x H1 => ∃ b : Int, x = .int b ∧ b ≤ 1000 ∧ -(2 ^ 60) ≤ b ∧ ∀ r H2, H1 r = none → Same H1 H2 → H2 r = some (.lst ((ups 0 b.toNat).map V.int)) → Q (.ref r) H2) (hg : Gl X "list" := by rfl) (hg2 : Gl X "range" := by rfl)
    (he : starEach [e] X.env = (false, eval e X.env) :: starEach [] X.env := by rfl)
    (he2 : starEach [.Call (.Name "range" p2) [e] [] pos2] X.env = (false, eval (.Call (.Name "range" p2) [e] [] pos2) X.env) :: starEach [] X.env := by rfl) : WE X (.Call (.Name "list" p) [.Call (.Name "range" p2) [e] [] pos2] [] pos) σ H Q :=
  we_callTy (call_list_rng hc) hm bt_list (wa_cons (we_callTy call_range1 hm2 bt_range (wa_cons (WE.mono q fun x H1 ⟨b, e, h1, h0, k⟩ => wa_nil ⟨b, by rw [e], fun r hr => wa_nil ⟨r, 0, b, 1, b.toNat, rfl, upd_same, small_one (by decide) (by decide) (by omega) (by omega), (by
    have := size_up' (a := 0) (b := b); rw [this]; congr 2; omega), by omega, fun l hl => by
      refine k l _ ?_ ((same_upd hr _).trans (same_upd hl _)) (by rw [upd_same, ups_eq])
      exact (same_upd hr _).free hl⟩⟩) he) hg2 (he := he)) he2) hg (he := he2)
theorem we_listRange2 {p2 pos2 : Pos} (hc : X.calm = true) (hm : X.mg "list" = none) (hm2 : X.mg "range" = none) (q : WE X a σ H fun x H1 => WE X b σ H1 fun y H2 => ∃ i j : Int, x = .int i ∧ y = .int j ∧ -(2 ^ 60) ≤ i ∧ i ≤ 2 ^ 60 ∧ -(2 ^ 60) ≤ j ∧ j ≤ 2 ^ 60 ∧ j - i ≤ 1000 ∧ ∀ r H3, H2 r = none → Same H2 H3 → H3 r = some (.lst ((ups i (j - i).toNat).map V.int)) → Q (.ref r) H3)
    (hg : Gl X "list" := by rfl) (hg2 : Gl X "range" := by rfl) (he : starEach [a, b] X.env = (false, eval a X.env) :: starEach [b] X.env := by rfl) (heb : starEach [b] X.env = (false, eval b X.env) :: starEach [] X.env := by rfl)
    (he2 : starEach [.Call (.Name "range" p2) [a, b] [] pos2] X.env = (false, eval (.Call (.Name "range" p2) [a, b] [] pos2) X.env) :: starEach [] X.env := by rfl) (hpl : (backTo pos2 (starEach [b] X.env)).any (·.1) = false := by rfl) :
    WE X (.Call (.Name "list" p) [.Call (.Name "range" p2) [a, b] [] pos2] [] pos) σ H Q :=
  we_callTy (call_list_rng hc) hm bt_list (wa_cons (we_callTy call_range2 hm2 bt_range (wa_cons (WE.mono q fun x H1 k1 => wa_cons (WE.mono k1 fun y H2 ⟨i, j, e1, e2, a1, a2, a3, a4, a5, k⟩ => wa_nil ⟨i, j, by rw [e1, e2], fun r hr => wa_nil ⟨r, i, j, 1, (j - i).toNat, rfl, upd_same,
    small_one (by omega) (by omega) (by omega) (by omega), size_up', by omega, fun l hl => by
      refine k l _ ?_ ((same_upd hr _).trans (same_upd hl _)) (by rw [upd_same, ups_eq])
      exact (same_upd hr _).free hl⟩⟩) heb) he) hg2 (he := he) (hpl := hpl)) he2) hg (he := he2)
/-- isinstance(e, T), T a built-in type -/
theorem we_isT {x : Str} {T : String} {px : Pos} (hm : X.mg "isinstance" = none) (hx : X.mg x = none) (hv : bootBuiltins x = some (.type T)) (q : WE X e σ H fun y H1 => ∃ t k, TyOf X.K H1 y t ∧ PySem.W.kitOne X.K t (.type T) = some k ∧ Q (.bl k) H1) (hg : Gl X "isinstance" := by rfl) (hgx : Gl X x := by rfl)
    (hn : x ≠ "__name__" := by decide) (hd : (x == ("__debug__" : Str)) = false := by decide)
    (he : starEach [e, .Name x px] X.env = (false, eval e X.env) :: starEach [.Name x px] X.env := by rfl) (he2 : starEach [.Name x px] X.env = (false, eval (.Name x px) X.env) :: starEach [] X.env := by rfl)
    (hpl : (backTo pos (starEach [.Name x px] X.env)).any (·.1) = false := by rfl) : WE X (.Call (.Name "isinstance" p) [e, .Name x px] [] pos) σ H Q :=
  we_callB call_isinst hm bt_isinstance (wa_cons (WE.mono q fun y H1 ⟨t, k, ty, ek, z⟩ => wa_cons (we_bltn (v := .ty T) hx hv rfl (wa_nil ⟨y, T, t, k, rfl, ty, ek, z⟩) hgx hn hd) he2) he) hg (he := he) (hpl := hpl)
end
/-! ### tests decided -/
theorem ifT {c : Prop} [Decidable c] {A B : Prop} (hc : c) (h : A) : if c then A else B := by rw [if_pos hc]; exact h
theorem ifF {c : Prop} [Decidable c] {A B : Prop} (hc : ¬ c) (h : B) : if c then A else B := by rw [if_neg hc]; exact h
theorem ifD {c : Prop} [Decidable c] {A B : Prop} (h1 : c → A) (h2 : ¬ c → B) : if decide c = true then A else B := by
  by_cases h : c
  · rw [if_pos (decide_eq_true h)]; exact h1 h
  · rw [if_neg (by simpa using h)]; exact h2 h
theorem ifDN {c : Prop} [Decidable c] {A B : Prop} (h1 : ¬ c → A) (h2 : c → B) : if (!decide c) = true then A else B := by
  by_cases h : c
  · rw [if_neg (by simp [h])]; exact h2 h
  · rw [if_pos (by simp [h])]; exact h1 h
theorem ifB {k : Bool} {A B : Prop} (h1 : k = true → A) (h2 : k = false → B) : if k = true then A else B := by
  cases k with
  | true => rw [if_pos rfl]; exact h1 rfl
  | false => rw [if_neg Bool.false_ne_true]; exact h2 rfl
/-! ### how many unlike ones -/
section
open PyProof.Rows
theorem fold_dedup : ∀ (l acc : List Int), (acc ++ l).Nodup → l.foldl step_dedup acc = acc ++ l
  | [], acc, _ => by simp
  | x :: l, acc, h => by
    have hx : acc.any (· == x) = false := by
      rw [Bool.eq_false_iff]
      intro z
      obtain ⟨y, hy, e⟩ := List.any_eq_true.mp z
      have e : y = x := by simpa using e
      subst e
      rw [List.nodup_append] at h
      exact h.2.2 y hy y List.mem_cons_self rfl
    rw [List.foldl_cons]
    unfold step_dedup
    rw [hx, if_neg Bool.false_ne_true, show acc ++ x :: l = (acc ++ [x]) ++ l by simp]
    exact fold_dedup l (acc ++ [x]) (by simpa using h)
theorem map_range_getD (ns : List Int) : (List.range ns.length).map (fun i => ns.getD i 0) = ns := by
  apply List.ext_getElem?
  intro i
  rw [List.getElem?_map]
  by_cases h : i < ns.length
  · rw [List.getElem?_range h, List.getElem?_eq_getElem h]
    simp [List.getD_eq_getElem?_getD, List.getElem?_eq_getElem h]
  · rw [List.getElem?_eq_none (by simpa using h), List.getElem?_eq_none (by simpa using h)]; rfl
theorem unl_nodup {ns : List Int} (h : ns.Nodup) : unl ns = ns.length := by
  unfold unl firstMet
  rw [map_range_getD, fold_dedup ns [] (by simpa using h)]
  simp
end
theorem Room.u8 {k : Nat} {A : Around} (r : Room k A) : A.units + 8 < cLine := by have := r.un; omega
theorem erase_map {α β : Type} (f : α → β) : ∀ (l : List α) (i : Nat), (l.map f).eraseIdx i = (l.eraseIdx i).map f
  | [], _ => by simp
  | x :: l, 0 => by simp
  | x :: l, i + 1 => by simp [erase_map f l i]
theorem insAt_map (ns : List Int) (k : Nat) (n : Int) : insAt (ns.map V.int) k (.int n) = (ns.take k ++ n :: ns.drop k).map V.int := by
  unfold insAt
  rw [List.map_append, List.map_cons, List.map_take, List.map_drop]
end L2

/-! part Ext5 -/
set_option Elab.async false
set_option linter.all false
set_option maxRecDepth 100000
set_option maxHeartbeats 4000000
/-! MY OWN LAYER 5: exceptions of the text's own classes: raised, let through a def, caught -/
namespace L2
open PySem PySem.Spec PyProof.Rows

/-- an exception behind a call: x of the class cls, on its way; B: all that a frame's notes can't touch -/
def CXE (P : Program) (w : World) : CXT := fun outer H s E e s' => ∃ (x : Addr) (cls a0 : Value) (B : Heap) (H' : Hp), e = .ref x ∧ s'.os = s.os ∧ AllBare s'.gens ∧ Un (frs outer) [] H H' s.heap s'.heap ∧ HOk P w H' s'.heap ∧
  Heap.FlyingW B outer x cls a0 s'.heap ∧ (∀ b o₀ o, s.heap.get? b = some o₀ → s'.heap.get? b = some o → b ∉ frs outer → B.get? b = some o) ∧ (∀ b u o, H' b = some u → s'.heap.get? b = some o → B.get? b = some o) ∧ E cls none H'
theorem strictE (P : Program) (w : World) : Strict (CXE P w) := fun _ _ _ _ _ ⟨_, _, _, _, _, _, _, _, _, _, _, _, _, z⟩ => z

theorem ObjOk.there' {P : Program} {w : World} {H : Hp} {h : Heap} {a : Addr} {o : HO} (x : ObjOk P w H h a o) : ∃ ob, h.get? a = some ob := by
  cases o with
  | lst xs => obtain ⟨_, _, _, _, e⟩ := x; exact ⟨_, e⟩
  | tup xs => obtain ⟨_, _, _, ob, e, _⟩ := x; exact ⟨_, e⟩
  | dK kvs => obtain ⟨_, _, _, _, o, _, _, e, _⟩ := x; exact ⟨_, e⟩
  | dT kvs => obtain ⟨_, _, _, _, o, _, _, e, _⟩ := x; exact ⟨_, e⟩
  | set S n => obtain ⟨o, _, _, _, e, _⟩ := x; exact ⟨_, e⟩
  | ins C dx fs => obtain ⟨_, _, _, e, _⟩ := x; exact ⟨_, e⟩
  | own y => exact x
  | xd fs => obtain ⟨_, ⟨_, _, _, e, _⟩, _⟩ := x; exact ⟨_, e⟩
  | rng lo hi => obtain ⟨_, _, _, e⟩ := x; exact ⟨_, e⟩
  | frz ob u => exact ⟨_, x.1⟩
  | tbl ps => exact ⟨_, (show h.get? a = some _ from x)⟩
  | met f y => exact ⟨_, (show h.get? a = some _ from x)⟩
  | ext φ => exact x.2.1

section
variable {P : Program} {w : World} {K : PySem.W.Frag} {mg : Str → Option Value} {base : Heap} {N : List Str} {qual : Str} {scope : Scope} {f : Addr} {cd : Value} {A : Around} {outer : List Env} {s : Shared} {H : Hp} {E : XK}
/-- the tracked things stay where B stays -/
theorem hok_stays {H1 : Hp} {h1 h2 B : Heap} (hok : HOk P w H1 h1) (c2 : ∀ b u o, H1 b = some u → h1.get? b = some o → B.get? b = some o) (k : B.StaysIn h2) : HOk P w H1 h2 := fun b u e =>
  (hok b u e).stay (fun c v hc q => by
    rcases hc with z | z
    · subst z; exact k c v (c2 c u v e q)
    · exact k c v (c2 c _ v z q)) (fun _ q => q) fun _ _ q => q
/-- out of a def's body: from its own state to what its caller sees -/
theorem un_out {X : Cx} {pins : List (Addr × Obj)} {σ : St} {H1 : Hp} {s1 : Shared} {h2 B : Heap} (I : Inv X pins σ H1 s1) (hex : X.ex = []) (k : B.StaysIn h2) (cv : ∀ b o, s1.heap.get? b = some o → H1 b = none → b ≠ X.env.locals → b ∉ X.fs → B.get? b = some o)
    (c2 : ∀ b u o, H1 b = some u → s1.heap.get? b = some o → B.get? b = some o) (sl : ∀ b o, s1.heap.get? b = some o → (∀ vs, o.data ≠ .fields vs) → ∃ sl, h2.get? b = some { o with slots := sl }) : Un X.fs [] X.H₀ H1 X.s₀.heap h2 := by
  have neL : ∀ b o, X.s₀.heap.get? b = some o → b ≠ X.env.locals := fun b o e => Nat.ne_of_lt (Nat.lt_of_lt_of_le (Heap.lt_size e) I.ok.above)
  have nx : ∀ b : Addr, b ∉ X.ex := fun b => by rw [hex]; simp
  have keep : ∀ b o, X.s₀.heap.get? b = some o → X.H₀ b = none → b ∉ X.fs → h2.get? b = some o := fun b o e n hb =>
    k b o (cv b o (I.base.keep b o e n hb (nx b)) (I.base.free b o e n (nx b)) (neL b o e) hb)
  have slot : ∀ b o, X.s₀.heap.get? b = some o → X.H₀ b = none → b ∈ X.fs → ∃ sl, h2.get? b = some { o with slots := sl } := fun b o e n hb => by
    obtain ⟨s', e1⟩ := I.base.slot b o e n hb (nx b)
    obtain ⟨_, o2, e2, hd⟩ := I.funs.mem hb
    rw [e1] at e2
    cases e2
    obtain ⟨s'', e3⟩ := sl b _ e1 hd
    exact ⟨s'', e3⟩
  refine ⟨fun b o e n hb _ => keep b o e n hb, fun b o e n hb _ => slot b o e n hb, fun b o e n _ => I.base.free b o e n (nx b), fun b o e _ => ?_, I.base.tups, I.base.frzs, I.base.tbls⟩
  obtain ⟨o', e1⟩ := I.base.there b o e (nx b)
  cases hb : H1 b with
  | some u => exact ⟨o', k b o' (c2 b u o' hb e1)⟩
  | none =>
    by_cases hf : b ∈ X.fs
    · obtain ⟨_, o2, e2, hd⟩ := I.funs.mem hf
      rw [e1] at e2
      cases e2
      obtain ⟨s'', e3⟩ := sl b _ e1 hd
      exact ⟨_, e3⟩
    · exact ⟨o', k b o' (cv b o' e1 hb (neL b o e) hf)⟩

/-- a def's body, with exceptions -/
abbrev cxE (P : Program) (w : World) (K : PySem.W.Frag) (mg : Str → Option Value) (base : Heap) (N : List Str) (qual : Str) (scope : Scope) (f : Addr) (cd : Value) (A : Around) (outer : List Env) (s : Shared) (H : Hp) (E : XK) : Cx :=
  cxOf (CXE P w) P w K mg base N qual scope f cd A outer s H E
/-- an exception just made may leave the context, if E is told of it -/
def Outs (X : Cx) (E : XK) : Prop := ∀ (pins : List (Addr × Obj)) (σ : St) (H : Hp) (s : Shared) (h' : Heap) (e : Addr) (cls : Value) (vs : List Value), Inv X pins σ H s → Heap.MadeExcOf s.heap h' e cls vs → E cls none H → X.xe (.ref e) { s with heap := h' }

theorem outs_cx : Outs (cxE P w K mg base N qual scope f cd A outer s H E) E := by
  intro pins σ H1 s1 h' e cls vs I hm hE
  have hin : ∀ env ∈ (cxE P w K mg base N qual scope f cd A outer s H E).stack, ∀ b, env.frame = some b → b ∈ frs (cxE P w K mg base N qual scope f cd A outer s H E).stack := fun env he b hb => List.mem_filterMap.mpr ⟨env, he, hb⟩
  have st : (PySem.W.hideAll s1.heap (frs (cxE P w K mg base N qual scope f cd A outer s H E).stack)).StaysIn s1.heap := fun b o q => PySem.W.of_hideAll _ q
  refine wpAny_leaves_madeW (base := PySem.W.hideAll s1.heap (frs (cxE P w K mg base N qual scope f cd A outer s H E).stack)) (h := s1.heap) (env := (cxE P w K mg base N qual scope f cd A outer s H E).env) (outer := outer) I.ok.frames rfl st (PySem.W.funFrames_hide I.stack hin) hm fun h2 t x1 x2 x3 x4 => ?_
  have hB : ∀ b o, s1.heap.get? b = some o → b ∉ frs (cxE P w K mg base N qual scope f cd A outer s H E).stack → (PySem.W.hideAll s1.heap (frs (cxE P w K mg base N qual scope f cd A outer s H E).stack)).get? b = some o := fun b o q hn => PySem.W.hideAll_get _ q hn
  have c2 : ∀ b u o, H1 b = some u → s1.heap.get? b = some o → (PySem.W.hideAll s1.heap (frs (cxE P w K mg base N qual scope f cd A outer s H E).stack)).get? b = some o := fun b u o hb q => hB b o q fun z => by
    rw [I.stkFree b z] at hb; cases hb
  have cv : ∀ b o, s1.heap.get? b = some o → H1 b = none → b ≠ (cxE P w K mg base N qual scope f cd A outer s H E).env.locals → b ∉ (cxE P w K mg base N qual scope f cd A outer s H E).fs → (PySem.W.hideAll s1.heap (frs (cxE P w K mg base N qual scope f cd A outer s H E).stack)).get? b = some o :=
    fun b o q _ h1 h2 => hB b o q fun z => (List.mem_cons.mp (I.stkSub b z)).elim h1 h2
  refine ⟨e, cls, .ref t, _, H1, rfl, I.os, I.bare, un_out I rfl x1.1 cv c2 (fun b o q hd => x4 b o (hm.keeps b o q) hd), hok_stays I.hok c2 x1.1, x1, fun b o₀ o q q2 hb => ?_, fun b u o hb q => ?_, hE⟩
  · obtain ⟨o1, e1⟩ := I.base.there b o₀ q (by show b ∉ ([] : List Addr); simp)
    have e2 := hB b o1 e1 fun z => (List.mem_cons.mp (I.stkSub b z)).elim (Nat.ne_of_lt (Nat.lt_of_lt_of_le (Heap.lt_size q) I.ok.above)) hb
    have e3 := x1.1 b o1 e2
    rw [q2] at e3
    cases e3
    exact e2
  · obtain ⟨o', e1⟩ := (I.hok b u hb).there'
    have e2 := c2 b u o' hb e1
    have e3 := x1.1 b o' e2
    rw [q] at e3
    cases e3
    exact e2
/-- an exception of a callee goes on -/
theorem passes_on {E' : XK} (hE : ∀ c d H', E' c d H' → E c d H') : Passes (CXE P w) (cxE P w K mg base N qual scope f cd A outer s H E) E' := by
  intro pins σ H1 s1 e s2 I z
  obtain ⟨x, cls, a0, B, H2, rfl, os, bare, un, hok, fl, c1, c2, z⟩ := z
  refine wpAny_leaves_onW (env := (cxE P w K mg base N qual scope f cd A outer s H E).env) (outer := outer) I.ok.frames rfl fl fun h3 x1 x2 => ?_
  have ns : ∀ b, b ≠ (cxE P w K mg base N qual scope f cd A outer s H E).env.locals → b ∉ frs outer → b ∉ frs (cxE P w K mg base N qual scope f cd A outer s H E).stack := fun b h1 h2 z => (List.mem_cons.mp (I.stkSub b z)).elim h1 h2
  have neL : ∀ b o, s.heap.get? b = some o → b ≠ (cxE P w K mg base N qual scope f cd A outer s H E).env.locals := fun b o e => Nat.ne_of_lt (Nat.lt_of_lt_of_le (Heap.lt_size e) I.ok.above)
  have nx : ∀ b : Addr, b ∉ (cxE P w K mg base N qual scope f cd A outer s H E).ex := fun b => by show b ∉ ([] : List Addr); simp
  have old : ∀ b o₀, s.heap.get? b = some o₀ → b ∉ frs outer → ∃ o, s2.heap.get? b = some o ∧ B.get? b = some o := fun b o₀ q hb => by
    obtain ⟨o1, e1⟩ := I.base.there b o₀ q (nx b)
    obtain ⟨o2, e2⟩ := un.there b o1 e1 (by simp)
    exact ⟨o2, e2, c1 b o1 o2 e1 e2 (ns b (neL b o₀ q) hb)⟩
  have keep : ∀ b o, s.heap.get? b = some o → H b = none → b ∉ frs outer → B.get? b = some o := fun b o q n hb => by
    have q1 := I.base.keep b o q n hb (nx b)
    have q2 := un.keep b o q1 (I.base.free b o q n (nx b)) (ns b (neL b o q) hb) (by simp)
    exact c1 b o o q1 q2 (ns b (neL b o q) hb)
  have slots : ∀ b, b ∈ frs outer → ∀ o, s1.heap.get? b = some o → H1 b = none → ∃ sl, h3.get? b = some { o with slots := sl } := fun b hb o q n => by
    have hb' : b ∈ frs (cxE P w K mg base N qual scope f cd A outer s H E).stack := by
      show b ∈ frs ((cxE P w K mg base N qual scope f cd A outer s H E).env :: outer)
      unfold frs
      rw [List.filterMap_cons]
      split
      · exact hb
      · exact List.mem_cons_of_mem _ hb
    obtain ⟨sl, e1⟩ := un.slot b o q n hb' (by simp)
    obtain ⟨_, o2, e2, hd⟩ := fl.2.2.1.mem hb'
    rw [e1] at e2
    cases e2
    obtain ⟨sl', e3⟩ := x2 b _ e1 hd
    exact ⟨sl', e3⟩
  refine ⟨x, cls, a0, B, H2, rfl, os.trans I.os, bare, ⟨fun b o q n hb _ => x1.1 b o (keep b o q n hb), fun b o q n hb _ => ?_, fun b o q n _ => ?_, fun b o q _ => ?_, fun b xs q => un.tups b xs (I.base.tups b xs q), fun b o u q => un.frzs b o u (I.base.frzs b o u q), fun b ps q => ?_⟩,
    hok_stays hok c2 x1.1, x1, fun b o₀ o q q2 hb => ?_, fun b u o hb q => ?_, hE _ _ _ z⟩
  · obtain ⟨sl, e1⟩ := I.base.slot b o q n hb (nx b)
    obtain ⟨sl', e2⟩ := slots b hb _ e1 (I.base.free b o q n (nx b))
    exact ⟨sl', e2⟩
  · obtain ⟨o', e1⟩ := I.base.there b o q (nx b)
    exact un.free b o' e1 (I.base.free b o q n (nx b)) (by simp)
  · by_cases hf : b ∈ frs outer
    · have hb' : b ∈ frs (cxE P w K mg base N qual scope f cd A outer s H E).stack := by
        show b ∈ frs ((cxE P w K mg base N qual scope f cd A outer s H E).env :: outer)
        unfold frs
        rw [List.filterMap_cons]
        split
        · exact hf
        · exact List.mem_cons_of_mem _ hf
      obtain ⟨o', e1⟩ := I.base.there b o q (nx b)
      obtain ⟨sl, e3⟩ := slots b hf o' e1 (I.stkFree b hb')
      exact ⟨_, e3⟩
    · obtain ⟨o2, _, e3⟩ := old b o q hf
      exact ⟨o2, x1.1 b o2 e3⟩
  · obtain ⟨m1, e1⟩ := I.base.tbls b ps q
    obtain ⟨m2, e2⟩ := un.tbls b _ e1
    exact ⟨m1 ++ m2, by rw [e2, Array.append_assoc]⟩
  · obtain ⟨o2, _, e3⟩ := old b o₀ q hb
    have e4 := x1.1 b o2 e3
    rw [q2] at e4
    cases e4
    exact e3
  · obtain ⟨o', e1⟩ := (hok b u hb).there'
    have e2 := c2 b u o' hb e1
    have e3 := x1.1 b o' e2
    rw [q] at e3
    cases e3
    exact e2
end

/-! ### raise C(..), C an own class beneath ValueError -/
/-- the classes above ValueError -/
abbrev vmro : List Value := [.type "ValueError", .type "Exception", .type "BaseException", .type "object"]
/-- C is such a class, as the text's top leaves it -/
abbrev Exc (K : PySem.W.Frag) (C : Addr) : Prop := PySem.W.excIn K C vmro "ValueError.__new__" = true
theorem exc_obj {K : PySem.W.Frag} {h : Heap} {C : Addr} {bmB : List Value} {newId : String} (X : K.In h) (q : PySem.W.excIn K C bmB newId = true) :
    ∃ bm N nm qn bs hdct sn sub ab col dd k0 k1 k2 k3 k5 mN, h.get? C = some (excClassObj nm qn C N bs bm hdct sn sub ab col dd k0 k1 k2 k3 k5 newId) ∧ h.Ns N mN ∧ mN "__init__" = none ∧ OwnTail h bmB bm := by
  unfold PySem.W.excIn at q
  split at q
  case h_2 => cases q
  case h_1 dd cd sl ho =>
    split at q
    case h_2 => cases q
    case h_1 C' bm k0 k1 k2 k3 n k5 hm hs =>
      simp only [Bool.and_eq_true, beq_iff_eq, Bool.not_eq_true'] at q
      obtain ⟨⟨⟨⟨⟨e1, e2⟩, hdel⟩, ht⟩, hok⟩, hni⟩ := q
      subst e1 e2
      obtain ⟨nm, bs, mro, ns, qn, hd, sn, sub, ab, col, del⟩ := cd
      have hm : mro = .ref C' :: bm := hm
      have hdel : del = false := hdel
      subst hm hdel
      have hsl : sl = #[k0, k1, k2, k3, some (.builtin n), k5] := by
        obtain ⟨l⟩ := sl
        have hs : l = _ := hs
        rw [hs]
      subst hsl
      exact ⟨bm, ns, nm, qn, bs, hd, sn, sub, ab, col, dd, k0, k1, k2, k3, k5, _, X _ _ ho, .of_isNs (PySem.W.isNs_of_in X hok), PySem.W.nsMap_none_of_in X hok hni, PySem.W.tail_of_in X ht⟩
section
variable {X : Cx} {E : XK} {x : Str} {C : Addr} {np cpos pos : Pos} {e : Expr} {es : List Expr} {nx bk ct : NX} {rt : VK} {σ : St} {H : Hp}
theorem ws_raise (ho : Outs X E) (hc : X.calm = true) (hm : X.mg x = some (.ref C)) (hx : Exc X.K C) (q : WA X (e :: es) σ H fun vs H1 => vs.length ≤ 1000 ∧ E (.ref C) none H1) (hg : Gl X x := by rfl)
    (hd : (x == ("__debug__" : Str)) = false := by decide) (hs : starEach (e :: es) X.env = (false, eval e X.env) :: starEach es X.env := by rfl) (hplain : (backTo cpos (starEach (e :: es) X.env)).any (·.1) = false := by rfl) :
    WS X (.Raise (some (.Call (.Name x np) (e :: es) [] cpos)) none pos) nx rt bk ct σ H := by
  intro pins s I
  obtain ⟨bm, N, nm, qn, bs, hdct, sn, sub, ab, col, dd, k0, k1, k2, k3, k5, mN, hC, hN, hni, T⟩ := exc_obj I.mod.kin hx
  refine wpAny_Raise_call_subT (nm := nm) (q := qn) (C := C) (N := N) (bs := bs) (bm := bm) (hdct := hdct) (sn := sn) (sub := sub) (ab := ab) (col := col) (dd := dd) (k0 := k0) (k1 := k1) (k2 := k2) (k3 := k3) (k5 := k5) F.excBase_ValueError (T.hasType (by decide)) (I.ok.hd hc) hplain hni (ld_glob I hg hm ⟨rfl, ?_⟩ hd)
  have hA := q cpos pins s I
  rw [hs] at hA ⊢
  refine Calls.evalArgs_plain (thn hA fun us s2 z => ?_)
  obtain ⟨vs, H1, I1, r, hz, hE⟩ := z
  refine ⟨rfl, ?_, I1.bk _ _ hC, hN.keeps I1.bk, T.keeps I1.bk, fun h' e hm => ho pins σ H1 s2 h' e _ _ I1 hm hE⟩
  have := r.length
  exact Nat.le_of_lt (small1000 (by show us.length ≤ 1000; omega))
end
end L2

/-! part Ext6 -/
set_option Elab.async false
set_option linter.all false
set_option maxRecDepth 100000
set_option maxHeartbeats 4000000
/-! MY OWN LAYER 6: isinstance of a caught exception -/
namespace L2
open PySem PySem.Spec PySem.Calls PyProof.Rows PySem.W Builtin Builtin.ObjectAttr Builtin.Getset_descriptor

/-- what of the text's top must be seen of an own exception class to ask isinstance of its instances -/
structure ExcI (K : Frag) (D : Addr) : Prop where
  ga : findIn K (.ref D) "__getattribute__" = some (some (.builtin "BaseException.__getattribute__"))
  gh : findIn K (.ref D) "__getattr__" = some none
  cl : findIn K (.ref D) "__class__" = some (some (.builtin "object.__class__"))
  sp : specialIn K (.builtin "object.__class__") "__get__" = some (some (.builtin "getset_descriptor.__get__"))
  tk : takesIn K (.builtin "object.__class__") = some true
  mo : mroIn K D (.type "object") = some true
  mb : mroIn K D (.type "BaseException") = some true
  ci : (clsIn K D).isSome = true

/-- an instance of the class at D stands at x -/
def ExcAt (h : Heap) (x D : Addr) : Prop := ∃ ox : Obj, h.get? x = some ox ∧ ox.cls = .ref D
theorem ExcAt.type {M : Model} {h : Heap} {x D : Addr} (I : ExcAt h x D) : Looks M h (typeOf (.ref x)) (.ref D) := by
  obtain ⟨ox, e, c⟩ := I
  exact c ▸ (Looks.ld e).andThen .now
section
variable {prog : Program} {w : World} {A : Around} {E : Value → Shared → Prop} {s : Shared} {K : Frag} {x D : Addr}
/-- the getter of __class__ -/
theorem exc_getter {tp : Value} {R : Result → Shared → Prop} (Z : ExcI K D) (X : K.In s.heap) (I : ExcAt s.heap x D) (h : R (.ok (.ret (.ref D))) s) :
    codeAny (model prog w) A (.call (.builtin "getset_descriptor.__get__") ⟨[.builtin "object.__class__", .ref x, tp], []⟩) R s := by
  have L0 := I.type (M := model prog w)
  have L1 := looks_mroIn (M := model prog w) X Z.mo
  obtain ⟨hh, g, dr, t, os⟩ := s
  refine codeAny_call_builtin KF.slot_gs.plain KF.entry_gs (KF.slot_gs.check _ _ _ _ _ _ _ _ KF.type_class (KF.args_gs _ _ _) (by
    unfold Builtin.«getset_descriptor.__get__» descrGet; rw [dga_obj]; refine wpAny_bind (wpAny_pure ?_)
    unfold descrGetter descrCheckInstance descrNameAndClass isInstance; simp only [KF.owner_class]; repeat lk
    exact ⟨Code.quiet_builtin _ (by decide +kernel), codeAny_builtin KF.entry_class (by unfold Builtin.«object.__class__» shownTypeOf; (repeat lk); exact h)⟩))
theorem exc_entry {tk : Tok} {Q : Fin → Shared → Prop} (Z : ExcI K D) (X : K.In s.heap) (I : ExcAt s.heap x D) (h : Q (.done (.ret (.ref D))) s) :
    wpAny (model prog w) A (Builtin.«object.__getattribute__» ⟨[.ref x, .str "__class__" tk], []⟩) Q E s := by
  have L0 := I.type (M := model prog w)
  have L1 : Looks (model prog w) s.heap (find (.ref x) (.ref D) "__class__") (.bind (.builtin "getset_descriptor.__get__") (.builtin "object.__class__")) := by
    have a1 := looks_findIn (M := model prog w) X Z.cl
    have a2 : Looks (model prog w) s.heap (getOf (some (.builtin "object.__class__"))) (some (.builtin "getset_descriptor.__get__")) := looks_specialIn X Z.sp
    have a3 := looks_takesIn (M := model prog w) X Z.tk
    refine a1.andThen (a2.andThen ?_)
    exact (show Looks (model prog w) s.heap (dataDescriptor? (some (.builtin "object.__class__")) (some (.builtin "getset_descriptor.__get__"))) (some (.builtin "getset_descriptor.__get__", .builtin "object.__class__")) from a3.andThen .now).andThen (Looks.tag .now)
  obtain ⟨hh, gg, d, t, os⟩ := s
  unfold Builtin.«object.__getattribute__»
  repeat lk
  refine wpAny_run (h := none) (exc_getter Z X I ?_)
  exact wpAny_pure (wpAny_pure h)
theorem exc_check {nameV : Value} {Q : Unit → Shared → Prop} (Z : ExcI K D) (X : K.In s.heap) (I : ExcAt s.heap x D) (h : Q () s) :
    wpAny (model prog w) A (checkBuiltinCall "BaseException.__getattribute__" ⟨[.ref x, nameV], []⟩) Q E s := by
  have L0 := I.type (M := model prog w)
  have L1 := looks_mroIn (M := model prog w) X Z.mb
  have hk : builtinKind "BaseException.__getattribute__" = some .slot := by decide +kernel
  have hsplit : splitId "BaseException.__getattribute__" = some ("BaseException", "__getattribute__") := by decide +kernel
  have ha := F.args_bexc_ga (.ref x) nameV
  obtain ⟨hh, gg, d, t, os⟩ := s
  simp only [checkBuiltinCall, hk, hsplit]
  refine wpAny_bind ?_
  unfold isInstance
  repeat lk
  first | exact h | (repeat (first | assumption | wp_step))
theorem exc_ga {tk : Tok} {R : Result → Shared → Prop} (Z : ExcI K D) (X : K.In s.heap) (I : ExcAt s.heap x D) (h : R (.ok (.ret (.ref D))) s) :
    codeAny (model prog w) A (.call (.builtin "BaseException.__getattribute__") ⟨[.ref x, .str "__class__" tk], []⟩) R s :=
  codeAny_call_builtin (PySem.F.excAttr_ValueError).ga.plain F.entry_bexc_ga (exc_check Z X I (exc_entry Z X I h))
theorem exc_class {Q : Option Value → Shared → Prop} (Z : ExcI K D) (X : K.In s.heap) (I : ExcAt s.heap x D) (h : Q (some (.ref D)) { s with toks := s.toks + 1 }) : wpAny (model prog w) A (getAttr? (.ref x) "__class__") Q E s := by
  obtain ⟨hh, g, d, t, os⟩ := s
  have L0 := I.type (M := model prog w)
  have L1 := looks_findIn (M := model prog w) X Z.ga
  have L2 := looks_findIn (M := model prog w) X Z.gh
  have f3 := (PySem.F.excAttr_ValueError).ga.bind (.ref x)
  unfold getAttr? getAttrBy? getAttrBy
  refine wpAny_bind (wpAny_mkText (wpAny_bind (wpAny_attempt (wpAny_holding (wpAny_bind (L0.at (wpAny_bind (L1.at ?_))))))))
  show wpAny _ _ (getAttrByItsOwn _ _ _ _ _ _) _ _ _
  unfold getAttrByItsOwn hookBefore
  refine wpAny_bind (L2.at ?_)
  refine wpAny_bind (wpAny_attempt (wpAny_holding ?_))
  show wpAny _ _ (boundAndCalled _ _ _) _ _ _
  unfold boundAndCalled
  rw [f3]
  refine wpAny_bind (wpAny_pure (wpAny_call (exc_ga (s := ⟨hh, g, d, t + 1, os⟩) Z X I ?_)))
  exact handed_on rfl (wpAny_pure h)
theorem kitx_exc (Z : ExcI K D) : KitX K (.ref x) (.ref D) (fun h => ExcAt h x D) where
  ty := fun _ _ _ I => I.type
  it := fun _ _ X _ => by
    obtain ⟨cdD, hcD⟩ := Option.isSome_iff_exists.mp Z.ci
    unfold clsIn at hcD
    split at hcD
    case h_2 => cases hcD
    case h_1 ho =>
      intro A' Q' E' s' k q
      unfold isType loadHead
      exact wpAny_bind (wpAny_loadPart (k _ _ (X _ _ ho)) (wpAny_pure q))
  ne := fun h tp dd its n sl X htp => by
    obtain ⟨cdD, hcD⟩ := Option.isSome_iff_exists.mp Z.ci
    refine Bool.eq_false_iff.mpr fun q => ?_
    have e : D = tp := Value.ref.inj (beq_iff_eq.mp q)
    subst e
    unfold clsIn at hcD
    split at hcD
    case h_2 => cases hcD
    case h_1 ho =>
      have z := (X _ _ ho).symm.trans htp
      cases z
  ca := fun X I k => exc_class Z X I k
end
/-- a caught exception at x, of the class at D -/
def ExcO (x D : Addr) : HO := .ext fun h => ExcAt h x D
theorem excO_ok {P : Program} {w : World} {H : Hp} {h : Heap} {x D : Addr} {o : Obj} (e : h.get? x = some o) (hc : o.cls = .ref D) : ObjOk P w H h x (ExcO x D) :=
  ⟨⟨o, e, hc⟩, ⟨o, e⟩, fun h1 h2 ⟨ox, a, b⟩ k => ⟨ox, k _ a, b⟩⟩
section
variable {X : Cx}
/-- isinstance(e, C) of a caught exception, C an own class or a built-in one -/
theorem call_isinstX : CallR X (.builtin "isinstance") (fun xs H Q => ∃ (x D : Addr) (c : V) (u : Value) (b : Bool), xs = [.ref x, c] ∧ RelV c u ∧ H x = some (ExcO x D) ∧ ExcI X.K D ∧ PySem.W.kitOne X.K (.ref D) u = some b ∧ (∀ t t', RelV c t → RelV c t' → t = t') ∧ Q (.bl b) H) := by
  intro pins s σ H xs us Q I r h
  obtain ⟨x, D, c, u, b, rfl, ru, hx, Z, e, uniq, q⟩ := h
  obtain ⟨v1, v2, rfl, rx, rc⟩ := vals2 r
  cases rx
  cases uniq _ _ ru rc
  obtain ⟨J, _, _⟩ := (show ObjOk X.prog X.w H s.heap x (ExcO x D) from I.hok x _ hx)
  exact kia_one (kitx_exc Z) I.kIn J e (fun z => nomatch z) fun tk => ⟨.bl b, H, I.tok tk, rfl, q⟩
end
end L2

/-! part Ext7 -/
set_option Elab.async false
set_option linter.all false
set_option maxRecDepth 100000
set_option maxHeartbeats 4000000
/-! MY OWN LAYER 7: f-strings; try .. except C as n -/
namespace L2
open PySem PySem.Spec PyProof.Rows

section
variable {X : Cx} {σ : St} {H : Hp} {Q : VK} {pos pos' : Pos} {acc y : Str} {e v1 v2 : Expr} {es : List Expr} {j : Nat}
def WJ (X : Cx) (acc : Str) (es : List Expr) (σ : St) (H : Hp) (Q : VK) : Prop := ∀ (pins : List (Addr × Obj)) (s : Shared), Inv X pins σ H s → wpAny (model X.prog X.w) X.A (joinParts acc (evalEach es X.env)) (EP X pins σ Q) X.xe s
theorem we_fstr (q : WJ X Str.empty (v1 :: v2 :: es) σ H Q) : WE X (.JoinedStr (v1 :: v2 :: es) pos) σ H Q := fun pins s I => JoinedStr_many (q pins s I)
theorem wj_nil (hz : acc.length ≤ sizeLine) (q : Q (.str acc) H) : WJ X acc [] σ H Q := fun pins s I => joinParts_nil ⟨.str acc, H, I.tok _, ⟨_, rfl⟩, q⟩ hz
theorem wj_str (hz : (acc ++ y).length ≤ sizeLine) (q : WJ X (acc ++ y) es σ H Q) : WJ X acc (.Constant (.str y) j pos :: es) σ H Q := fun pins s I => by
  refine joinParts_cons (pe_str pins s σ H (fun v H1 => v = .str y ∧ H1 = H) I ⟨rfl, rfl⟩ |> fun h => thn h fun u s1 ⟨v, H1, I1, r, e1, e2⟩ => ?_)
  subst e1 e2
  obtain ⟨t, rfl⟩ := r
  exact ⟨hz, q pins s1 I1⟩
theorem wj_int (q : WE X e σ H fun x H1 => ∃ i : Int, x = .int i ∧ i.natAbs.log2 < 1920 ∧ (acc ++ (toString i : Str)).length ≤ sizeLine ∧ WJ X (acc ++ (toString i : Str)) es σ H1 Q) : WJ X acc (.FormattedValue e (-1) none pos :: es) σ H Q := fun pins s I => by
  refine joinParts_cons (FormattedValue_plain (thn (q pins s I) fun u s1 ⟨v, H1, I1, r, i, e1, hl, hz, q1⟩ => ?_))
  subst e1
  obtain ⟨t, rfl⟩ := r
  exact formatField_int_small hl ⟨hz, q1 pins _ (I1.tok _)⟩
end

/-! ### a call whose exceptions go where the context wants them, the names being what they are there -/
def PassesAt (CX : CXT) (X : Cx) (E : XK) (σ : St) : Prop := ∀ (pins : List (Addr × Obj)) (H : Hp) (s : Shared) (e : Value) (s' : Shared), Inv X pins σ H s → CX X.stack H s E e s' → X.xe e s'
theorem Passes.at_ {CX : CXT} {X : Cx} {E : XK} (h : Passes CX X E) (σ : St) : PassesAt CX X E σ := fun pins H s e s' I z => h pins σ H s e s' I z
section
variable {X : Cx} {CX : CXT} {k j : Nat} {ps : List Str} {sp : Sp} {E : XK} {x : Str} {p pos : Pos} {e : Expr} {es : List Expr} {σ : St} {H : Hp} {Q : VK}
theorem we_callT (F : Fd X.prog X.w X.K X.mg X.base CX x ps j sp) (hr : Room k X.A) (hx : PassesAt CX X E σ) (q : WA X (e :: es) σ H fun vs H1 => sp vs H1 Q E) (hj : j ≤ k := by decide) (hg : Gl X x := by rfl)
    (hdb : (x == ("__debug__" : Str)) = false := by decide) (he : starEach (e :: es) X.env = (false, eval e X.env) :: starEach es X.env := by rfl) (hpl : (backTo pos (starEach es X.env)).any (·.1) = false := by rfl) :
    WE X (.Call (.Name x p) (e :: es) [] pos) σ H Q := by
  obtain ⟨f, fd, hm, hk, hb, F, _⟩ := F.ex
  intro pins s I
  refine wpAny_Call_Name_kw (ld_glob I hg hm ?_ hdb)
  refine PySem.W.callWith_K (h₀ := X.base) I.ok.mod.kin hk (thn (q pos pins s I) fun us s1 ⟨vs, H1, I1, r, q1⟩ => ⟨I1.kIn, ?_⟩) he hpl
  have hl : us.length = ps.length := by rw [← r.length]; exact F.len _ _ _ _ q1
  have hb' := hb s1 us I1.kIn (by rw [List.append_nil]; exact hl)
  rw [List.append_nil] at hb'
  refine wpAny_call (codeAny_mono ((F.mono hj).run X.A X.stack s1 H1 ⟨us, []⟩ us vs Q E hr I1.env0 hb' r q1) fun r s' hq => ?_)
  cases r with
  | error e => exact hx pins H1 s1 e s' I1 hq
  | ok fl =>
    cases fl with
    | ret u => exact I1.after hq
    | next => exact False.elim hq
    | brk => exact False.elim hq
    | cont => exact False.elim hq
end

/-! ### try -/
/-- the body of a try: pins of the loops around are borne by every state -/
abbrev Cx.tryB (X : Cx) (pins : List (Addr × Obj)) (Eh : Value → Shared → Prop) : Cx := { X with pn := X.pn ++ pins, xe := Eh }
/-- the suite of an except -/
abbrev Cx.exB (X : Cx) (pins : List (Addr × Obj)) (x : Addr) : Cx := { X with pn := X.pn ++ pins, A := X.A.mark (some (.ref x)), calm := false, xe := fun _ _ => False }
section
variable {X : Cx} {pins pins' : List (Addr × Obj)} {Eh : Value → Shared → Prop} {σ : St} {H : Hp} {s : Shared} {x : Addr}
theorem Cx.Ok.tryB (ok : X.Ok) : (X.tryB pins Eh).Ok := ⟨ok.mod, ok.kind, ok.glob, ok.blt, ok.above, ok.inj, ok.has, ok.cab, ok.hd, ok.frames, ok.stk, ok.exf, ok.bs, ok.bsz, ok.noex, ok.exfs, ok.funs, ok.frf⟩
theorem Cx.Ok.unTryB (ok : (X.tryB pins Eh).Ok) : X.Ok := ⟨ok.mod, ok.kind, ok.glob, ok.blt, ok.above, ok.inj, ok.has, ok.cab, ok.hd, ok.frames, ok.stk, ok.exf, ok.bs, ok.bsz, ok.noex, ok.exfs, ok.funs, ok.frf⟩
theorem Inv.tryB (I : Inv X pins σ H s) (Eh : Value → Shared → Prop) : Inv (X.tryB pins Eh) [] σ H s := ⟨I.ok.tryB, I.os, I.bare, I.base, I.loc, I.cell, I.free, I.freeC, fun p hp => I.pin p (by simpa using hp), I.hok, I.len⟩
theorem Inv.unTryB (I : Inv (X.tryB pins Eh) pins' σ H s) : Inv X pins σ H s := ⟨I.ok.unTryB, I.os, I.bare, I.base, I.loc, I.cell, I.free, I.freeC, fun p hp => I.pin p (List.mem_append_left _ hp), I.hok, I.len⟩
theorem Inv.exB (I : Inv X pins σ H s) (hfr : (X.A.mark (some (.ref x))).frames = some X.stack) : Inv (X.exB pins x) [] σ H s :=
  ⟨⟨I.ok.mod, I.ok.kind, I.ok.glob, I.ok.blt, I.ok.above, I.ok.inj, I.ok.has, I.ok.cab, fun z => (by cases z), hfr, I.ok.stk, I.ok.exf, I.ok.bs, I.ok.bsz, I.ok.noex, I.ok.exfs, I.ok.funs, I.ok.frf⟩, I.os, I.bare, I.base, I.loc, I.cell, I.free, I.freeC, fun p hp => I.pin p (by simpa using hp), I.hok, I.len⟩
theorem Inv.unExB (I : Inv (X.exB pins x) pins' σ H s) (okX : X.Ok) : Inv X pins σ H s := ⟨okX, I.os, I.bare, I.base, I.loc, I.cell, I.free, I.freeC, fun p hp => I.pin p (List.mem_append_left _ hp), I.hok, I.len⟩
/-- a thing that stands in the heap, made since, is tracked from here on -/
theorem Inv.track {a : Addr} {o : HO} (I : Inv X pins σ H s) (hn : H a = none) (h0 : X.s₀.heap.get? a = none) (hL : a ≠ X.env.locals) (hc : ∀ y c, X.env.cells.lookup y = some c → c ≠ a) (hp : ∀ p ∈ X.pn ++ pins, p.1 ≠ a)
    (new : ObjOk X.prog X.w (upd H a o) s.heap a o) : Inv X pins σ (upd H a o) s := by
  have ne : ∀ b u, X.s₀.heap.get? b = some u → b ≠ a := fun b u e z => by rw [z, h0] at e; cases e
  refine ⟨I.ok, I.os, I.bare, ⟨fun b u e n hb hx => I.base.keep b u e n hb hx, fun b u e n hb hx => I.base.slot b u e n hb hx, fun b u e n hx => ?_, fun b u e hx => I.base.there b u e hx, fun b xs e => ?_, fun b u v e => ?_, fun b ps e => ?_⟩, I.loc, I.cell, ?_, fun y c e => ?_, fun p hp' => ?_, fun b u e => ?_, I.len⟩
  · rw [upd_ne (ne b u e)]; exact I.base.free b u e n hx
  · have q := I.base.tups b xs e
    rw [upd_ne (ne_of_none q hn)]; exact q
  · have q := I.base.frzs b u v e
    rw [upd_ne (ne_of_none q hn)]; exact q
  · obtain ⟨m, q⟩ := I.base.tbls b ps e
    exact ⟨m, by rw [upd_ne (ne_of_none q hn)]; exact q⟩
  · rw [upd_ne (Ne.symm hL)]; exact I.free
  · rw [upd_ne (hc y c e)]; exact I.freeC y c e
  · obtain ⟨a1, a2, a3, a4, a5⟩ := I.pin p hp'
    exact ⟨a1, by rw [upd_ne (hp p hp')]; exact a2, a3, a4, a5⟩
  · by_cases hb : b = a
    · subst hb; rw [upd_same] at e; cases e; exact new
    · rw [upd_ne hb] at e
      exact (I.hok b u e).stay (fun c v _ q => q) (fun c q => by rw [upd_ne (ne_of_none q hn)]; exact q) fun c xs q => by rw [upd_ne (ne_of_none q hn)]; exact q
end

section
variable {X : Cx} {pins pins' : List (Addr × Obj)} {σ : St} {H1 H2 : Hp} {s1 s2 : Shared} {B h : Heap} {x : Addr} {cls a0 : Value}
/-- the state of the caller where an exception has come back to it -/
theorem inv_back (J1 : Inv X pins σ H1 s1) (os : s2.os = s1.os) (bare : AllBare s2.gens) (un : Un (frs X.stack) [] H1 H2 s1.heap s2.heap) (hok : HOk X.prog X.w H2 s2.heap) (fl : Heap.FlyingW B X.stack x cls a0 s2.heap)
    (c1 : ∀ b o₀ o, s1.heap.get? b = some o₀ → s2.heap.get? b = some o → b ∉ frs X.stack → B.get? b = some o) (c2 : ∀ b u o, H2 b = some u → s2.heap.get? b = some o → B.get? b = some o)
    (k : B.StaysIn h) (sm : s2.heap.UpToSlots h) (tk : Nat) : Inv X pins σ H2 { s2 with heap := h, toks := tk } := by
  have slots : ∀ b, b ∈ frs X.stack → ∀ o, s1.heap.get? b = some o → H1 b = none → ∃ sl, h.get? b = some { o with slots := sl } := fun b hb o q n => by
    obtain ⟨sl, e1⟩ := un.slot b o q n hb (by simp)
    obtain ⟨_, o2, e2, hd⟩ := fl.2.2.1.mem hb
    rw [e1] at e2
    cases e2
    obtain ⟨sl', e3⟩ := sm b _ e1 hd
    exact ⟨sl', e3⟩
  refine J1.call' (s' := { s2 with heap := h, toks := tk }) (ch := []) os ⟨fun b o q n hb _ => ?_, fun b o q n hb _ => slots b hb o q n, fun b o q n _ => un.free b o q n (by simp), fun b o q _ => ?_, un.tups, un.frzs, un.tbls⟩ (hok_stays hok c2 k) bare (fun b z => absurd z (by simp))
  · exact k b o (c1 b o o q (un.keep b o q n hb (by simp)) hb)
  · by_cases hb : b ∈ frs X.stack
    · obtain ⟨sl, e⟩ := slots b hb o q (J1.stkFree b hb)
      exact ⟨_, e⟩
    · obtain ⟨o2, e2⟩ := un.there b o q (by simp)
      exact ⟨o2, k b o2 (c1 b o o2 q e2 hb)⟩
end
section
variable {X : Cx} {E' : XK} {σ : St} {H : Hp} {nx bk ct : NX} {rt : VK} {y n : Str} {np hpos pos : Pos} {body suite : List Stmt} {b₀ : Stmt} {C : Addr} {i : Nat}
/-- what the wish of a try's body is -/
def tryWish (X : Cx) (pins : List (Addr × Obj)) (hs : List ExceptHandler) (D : Ends) : Value → Shared → Prop := fun e s₁ =>
  wpAny (model X.prog X.w) X.A (noteFrame e X.env) (fun _ s₂ => wpAny (model X.prog X.w) X.A (setFlight e none) (fun _ s₃ => wpAny (model X.prog X.w) X.A (handleBy e X.env hs) (SP X pins D) X.xe s₃) X.xe s₂) X.xe s₁
theorem nameless {X : Cx} {pins : List (Addr × Obj)} {σ : St} {H : Hp} {s : Shared} {A : Around} {E : Value → Shared → Prop} {Q : Unit → Shared → Prop} {hp : Pos} (I : Inv X pins σ H s) (hn : X.env.scope.names.lookup n = some .local) (hN : X.N.Nodup) (hi : X.N[i]? = some n)
    (h : ∀ s', Inv X pins (σ.set i none) H s' → Q () s') : wpAny (model X.prog X.w) A (do bindName X.env n .none; unbindBehindTheSuite X.env n hp) Q E s := by
  obtain ⟨m, hm, hl⟩ := id I.loc
  have hcls : (X.env.scope.kind == .class || (X.env.scope.kind == .module && X.env.locals != X.env.globals)) = false := by rw [I.ok.kind]; rfl
  refine wpAny_nameGoes_keeps hn hm hcls fun h' v hn' hs => h _ ?_
  obtain ⟨oL, _, _, hoL, _⟩ := id hm
  have kp : ∀ b o, b ≠ X.env.locals → s.heap.get? b = some o → h'.get? b = some o := fun b o hb q => (hs.2 b hb).trans q
  have hiσ : i < σ.length := by rw [I.len]; exact (List.getElem?_eq_some_iff.mp hi).1
  refine ⟨I.ok, I.os, I.bare, ⟨fun b o e n hb hx => ?_, fun b o e n hb hx => ?_, I.base.free, fun b o e hx => ?_, I.base.tups, I.base.frzs, I.base.tbls⟩, ⟨_, hn', fun j z v' e1 e2 e3 => ?_⟩, fun z c e => ?_, I.free, I.freeC, fun p hp => ?_, fun b ob e => ?_, by simpa using I.len⟩
  · exact kp b o (Nat.ne_of_lt (Nat.lt_of_lt_of_le (Heap.lt_size e) I.ok.above)) (I.base.keep b o e n hb hx)
  · obtain ⟨sl, e1⟩ := I.base.slot b o e n hb hx
    exact ⟨sl, kp b _ (Nat.ne_of_lt (Nat.lt_of_lt_of_le (Heap.lt_size e) I.ok.above)) e1⟩
  · obtain ⟨o', e1⟩ := I.base.there b o e hx
    exact ⟨o', kp b _ (Nat.ne_of_lt (Nat.lt_of_lt_of_le (Heap.lt_size e) I.ok.above)) e1⟩
  · by_cases hj : j = i
    · subst hj
      rw [List.getElem?_set_self hiσ] at e2
      cases e2
    · rw [List.getElem?_set_ne (Ne.symm hj)] at e2
      obtain ⟨u, r, q⟩ := hl j z v' e1 e2 e3
      refine ⟨u, r, ?_⟩
      rcases q with ⟨k, e⟩ | ⟨k, c, e, w'⟩
      · refine .inl ⟨k, ?_⟩
        have : z ≠ n := fun q => hj (nodup_ix hN e1 (q ▸ hi))
        show (if z = n then v else m z) = some u
        rw [if_neg this]; exact e
      · exact .inr ⟨k, c, e, w'.sameBut hs (I.cne z c e)⟩
  · obtain ⟨v', w'⟩ := I.cell z c e
    exact ⟨v', w'.sameBut hs (I.cne z c e)⟩
  · obtain ⟨a1, a2, a3, a4, a5⟩ := I.pin p hp
    exact ⟨kp p.1 p.2 a3 a1, a2, a3, a4, a5⟩
  · refine (I.hok b ob e).stay (fun c v' hc q => kp c v' ?_ q) (fun _ q => q) fun _ _ q => q
    rintro rfl
    rcases hc with z | z
    · rw [← z, I.free] at e; cases e
    · rw [I.free] at z; cases z
theorem passes_catch (pins : List (Addr × Obj)) (hex : X.ex = []) (hst : X.stack = X.env :: X.outer) (hf : X.env.frame = some X.env.locals) (hm : X.mg y = some (.ref C)) (hgl : Gl X y) (hN : X.N.Nodup) (hi : X.N[i]? = some n) (hn : X.env.scope.names.lookup n = some .local)
    (hd : (y == ("__debug__" : Str)) = false)
    (hh : ∀ c H', E' c none H' → ∃ D, c = .ref D ∧ PySem.W.exmOne X.K (.ref D) (.ref C) = some true ∧ ∀ pins x, H' x = none →
      WB (X.exB pins x) (b₀ :: suite) (fun σ2 H2 => nx (σ2.set i none) H2) rt (fun σ2 H2 => bk (σ2.set i none) H2) (fun σ2 H2 => ct (σ2.set i none) H2) (σ.set i (some (.ref x))) (upd H' x (ExcO x D))) :
    PassesAt (CXE X.prog X.w) (X.tryB pins (tryWish X pins [.ExceptHandler (some (.Name y np)) (some n) (b₀ :: suite) hpos] ⟨nx, rt, bk, ct⟩)) E' σ := by
  intro pins' H1 s1 e s2 I1 z
  have J1 := I1.unTryB
  obtain ⟨x, cls, a0, B, H2, rfl, os, bare, un, hok, fl, c1, c2, z⟩ := z
  have un : Un (frs X.stack) [] H1 H2 s1.heap s2.heap := un
  have fl : Heap.FlyingW B X.stack x cls a0 s2.heap := fl
  have fl' : Heap.FlyingW B (X.env :: X.outer) x cls a0 s2.heap := by rw [← hst]; exact fl
  have frm : X.A.frames = some (X.env :: X.outer) := by rw [← hst]; exact J1.ok.frames
  obtain ⟨D, rfl, hx, suiteW⟩ := hh cls H2 z
  have back : ∀ h, B.StaysIn h → s2.heap.UpToSlots h → ∀ tk, Inv X pins σ H2 { s2 with heap := h, toks := tk } := fun h k sm tk => inv_back J1 os bare un hok fl c1 c2 k sm tk
  have newx : s1.heap.get? x = none := by
    cases q : s1.heap.get? x with
    | none => rfl
    | some o =>
      exfalso
      have hxs : x ∉ frs X.stack := fun hb => by
        obtain ⟨_, o2, e2, hd2⟩ := fl.2.2.1.mem hb
        obtain ⟨oe, vs, T, oT, ts, e3, _, e4, _⟩ := fl.2.2.2
        rw [e2] at e3; cases e3
        exact hd2 vs e4
      obtain ⟨o2, e2⟩ := un.there x o q (by simp)
      have := c1 x o o2 q e2 hxs
      rw [fl.2.1] at this; cases this
  have hx2 : H2 x = none := by
    cases q : H2 x with
    | none => rfl
    | some u =>
      obtain ⟨ob, eo⟩ := (hok x u q).there'
      have := c2 x u ob q eo
      rw [fl.2.1] at this; cases this
  refine wpAny_looks_onW frm hf fl' fun h4 held4 sm4 => ?_
  refine wpAny_landsW held4 fun h5 fl5 sm5 => ?_
  have sm25 := sm4.trans sm5
  have I5 := back h5 fl5.1 sm25 s2.toks
  have K5 : Inv (X.exB pins x) [] σ H2 { s2 with heap := h5 } := I5.exB J1.ok.frames
  refine wpAny_handleBy_cons (codeAny_handlers_test (ld_glob (X := X.exB pins x) K5 hgl hm ?_ hd)) (by intro q; cases q)
  obtain ⟨ob5, hob5, hc5⟩ := fl5.there
  have LT : PySem.W.Looks (model X.prog X.w) h5 (typeOf (.ref x)) (.ref D) := ExcAt.type ⟨ob5, hob5, hc5⟩
  refine PySem.W.exm_one (K := X.K) I5.kIn LT hx _ _ _ _ (fun b o q => q) ?_
  refine codeAny_handlers_suite_as ?_
  refine lands_againW fl5 fun h6 fl6 sm6 => ?_
  have I6 := back h6 fl6.1 (sm25.trans sm6) s2.toks
  obtain ⟨ob6, hob6, hc6⟩ := fl6.there
  have nL : x ≠ X.env.locals := fun q => by
    obtain ⟨m, ⟨o, _, _, ho, _⟩, _⟩ := J1.loc
    rw [← q, newx] at ho; cases ho
  have I7 : Inv X pins σ (upd H2 x (ExcO x D)) { s2 with heap := h6 } := I6.track hx2 (by
      cases q : X.s₀.heap.get? x with
      | none => rfl
      | some o =>
        obtain ⟨o', e'⟩ := J1.base.there x o q (by rw [hex]; simp)
        rw [newx] at e'; cases e') nL
    (fun z c e q => by
      obtain ⟨v, o, ho, _⟩ := J1.cell z c e
      rw [q, newx] at ho; cases ho)
    (fun p hp q => by
      have := (J1.pin p hp).1
      rw [q, newx] at this; cases this) (excO_ok hob6 hc6)
  have I8 := I7.exB (x := x) J1.ok.frames
  refine store_ok (X := X.exB pins x) (v := .ref x) I8 hN hi (.inl hn) rfl (fun s9 I9 => ?_) (.inr hn)
  refine wpAny_mono (suiteW pins x hx2 [] s9 I9) (fun f s10 q => ?_) fun _ _ z => z.elim
  have done : ∀ {σ2 : St} {H3 : Hp} {Q : Unit → Shared → Prop}, Inv (X.exB pins x) [] σ2 H3 s10 → (∀ s', Inv X pins (σ2.set i none) H3 s' → Q () s') → wpAny (model X.prog X.w) X.A (do bindName X.env n .none; unbindBehindTheSuite X.env n hpos) Q X.xe s10 :=
    fun I10 hq => nameless (I10.unExB J1.ok) hn hN hi hq
  cases f with
  | next => obtain ⟨σ2, H3, I10, q⟩ := q; exact done I10 fun s' I11 => ⟨_, H3, I11, q⟩
  | brk => obtain ⟨σ2, H3, I10, q⟩ := q; exact done I10 fun s' I11 => ⟨_, H3, I11, q⟩
  | cont => obtain ⟨σ2, H3, I10, q⟩ := q; exact done I10 fun s' I11 => ⟨_, H3, I11, q⟩
  | ret v => obtain ⟨v', σ2, H3, I10, r, q⟩ := q; exact done I10 fun s' I11 => ⟨v', _, H3, I11, r, q⟩
/-- try: body except y as n: suite; the body's exceptions (E') come out of calls where the names are as at its start -/
theorem ws_try (E' : XK) (i : Nat) (hN : X.N.Nodup) (hm : X.mg y = some (.ref C))
    (hb : ∀ pins Eh, PassesAt (CXE X.prog X.w) (X.tryB pins Eh) E' σ → WB (X.tryB pins Eh) body nx rt bk ct σ H)
    (hh : ∀ c H', E' c none H' → ∃ D, c = .ref D ∧ PySem.W.exmOne X.K (.ref D) (.ref C) = some true ∧ ∀ pins x, H' x = none →
      WB (X.exB pins x) (b₀ :: suite) (fun σ2 H2 => nx (σ2.set i none) H2) rt (fun σ2 H2 => bk (σ2.set i none) H2) (fun σ2 H2 => ct (σ2.set i none) H2) (σ.set i (some (.ref x))) (upd H' x (ExcO x D)))
    (hex : X.ex = [] := by rfl) (hst : X.stack = X.env :: X.outer := by rfl) (hf : X.env.frame = some X.env.locals := by rfl) (hgl : Gl X y := by rfl) (hi : X.N[i]? = some n := by rfl) (hn : X.env.scope.names.lookup n = some .local := by rfl)
    (hd : (y == ("__debug__" : Str)) = false := by decide) : WS X (.Try body [.ExceptHandler (some (.Name y np)) (some n) (b₀ :: suite) hpos] [] [] pos) nx rt bk ct σ H := by
  intro pins s I
  refine wpAny_Try_except ?_
  refine wpAny_mono (hb pins (tryWish X pins [.ExceptHandler (some (.Name y np)) (some n) (b₀ :: suite) hpos] ⟨nx, rt, bk, ct⟩) (passes_catch pins hex hst hf hm hgl hN hi hn hd hh) [] s (I.tryB _)) (fun f s1 q => ?_) fun _ _ z => z
  cases f with
  | next => obtain ⟨σ', H', I', q⟩ := q; exact wpAny_execs_nil ⟨σ', H', I'.unTryB, q⟩
  | brk => obtain ⟨σ', H', I', q⟩ := q; exact ⟨σ', H', I'.unTryB, q⟩
  | cont => obtain ⟨σ', H', I', q⟩ := q; exact ⟨σ', H', I'.unTryB, q⟩
  | ret v => obtain ⟨v', σ', H', I', r, q⟩ := q; exact ⟨v', σ', H', I'.unTryB, r, q⟩
end
end L2

/-! part Ext8 -/
set_option Elab.async false
set_option linter.all false
set_option maxRecDepth 100000
set_option maxHeartbeats 4000000
/-! MY OWN LAYER 8: zip, enumerate; two names at once in loops and comprehensions -/
namespace L2
open PySem PySem.Spec PyProof.Rows

section
variable {X : Cx} {pins : List (Addr × Obj)} {σ : St} {H : Hp} {s : Shared} {h' : Heap}
/-- untracked records of ours have turned -/
theorem Inv.turnedL {t' : Nat} {fp : List Addr} (I : Inv X pins σ H s) (k : ∀ b o, b ∉ fp → s.heap.get? b = some o → h'.get? b = some o) (hf : ∀ b ∈ fp, FpOk X pins H b) : Inv X pins σ H { s with heap := h', toks := t' } := by
  have nit : ∀ b u, H b = some u → b ∉ fp := fun b u e z => by rw [(hf b z).1] at e; cases e
  refine I.step (g' := s.gens) (d' := s.drawn) (ch := fp) (fun b hb => ⟨(hf b hb).2.2.2.1, (hf b hb).2.1, (hf b hb).2.2.2.2.1, (hf b hb).2.2.2.2.2⟩) (fun b o _ _ hc e _ => k b o hc e) (fun b o _ _ hc e _ => ⟨o.slots, k b o hc e⟩) (fun _ _ _ _ n => n)
    (fun b o hc e => ⟨o, k b o hc e⟩) (fun _ _ e => e) (fun _ _ _ e => e) (fun b ps e => ⟨#[], by rw [e]; simp⟩) (fun m hm => ?_) (fun b u e => ?_) I.bare
  · obtain ⟨o, es, ep, ho, r⟩ := hm
    exact ⟨o, es, ep, k _ o (fun z => (hf _ z).2.1 rfl) ho, r⟩
  · refine (I.hok b u e).stay (fun c v hc q => k c v ?_ q) (fun _ q => q) fun _ _ q => q
    rcases hc with z | z
    · rw [z]; exact nit b u e
    · exact nit c _ z
/-- a fresh address -/
theorem Inv.new0 (I : Inv X pins σ H s) {T : Addr} (hT : s.heap.objs.size ≤ T) : X.s₀.heap.get? T = none := by
  cases e : X.s₀.heap.get? T with
  | none => rfl
  | some o => exact absurd (Nat.lt_of_lt_of_le (Heap.lt_size e) (Nat.le_trans I.sz hT)) (Nat.lt_irrefl _)
end

/-! ### zip of two lists, enumerate of a list -/
/-- pairs of the items of the lists at a, b -/
def Itz (K : PySem.W.Frag) (a b : Addr) : It :=
  ⟨fun i H => ∃ xs ys x y, SqL K H a xs ∧ SqL K H b ys ∧ xs[i]? = some x ∧ ys[i]? = some y,
   fun i H v H' => ∃ t x y, H t = none ∧ v = .ref t ∧ H' = upd H t (.tup [x, y]) ∧ ∀ xs ys, SqL K H a xs → SqL K H b ys → xs[i]? = some x ∧ ys[i]? = some y,
   fun i H => ∃ xs ys, SqL K H a xs ∧ SqL K H b ys ∧ i = min xs.length ys.length⟩
theorem two_line : 2 ≤ sizeLine := by decide
theorem turn_zip {P : Program} {w : World} {K : PySem.W.Frag} {elts : List Expr} {kk : Nat} {pos : Pos} (z TI TO i1 i2 l1 l2 : Addr) (D : ZipApart z TI TO i1 i2 l1 l2) :
    Turn P w K (.Tuple elts kk pos) (Itz K l1 l2) [z, TI, TO, i1, i2] z (fun i h => IsZip h z TI TO .none ∧ IsPair h TI (.ref i1) (.ref i2) ∧ (∃ a b, IsPair h TO a b) ∧ h.IsListIter i1 l1 i ∧ h.IsListIter i2 l2 i) where
  mem := by simp
  obj := fun i h st b hb => by
    obtain ⟨hz, hTI, ⟨a, b', hTO⟩, ⟨o1, e1, c1, d1⟩, ⟨o2, e2, c2, d2⟩⟩ := st
    simp only [List.mem_cons, List.not_mem_nil, or_false] at hb
    rcases hb with rfl | rfl | rfl | rfl | rfl
    · exact ⟨_, hz, fun v q => by cases q⟩
    · exact ⟨_, hTI, fun v q => by cases q⟩
    · exact ⟨_, hTO, fun v q => by cases q⟩
    · exact ⟨_, e1, fun v q => by rw [d1] at q; cases q⟩
    · exact ⟨_, e2, fun v q => by rw [d2] at q; cases q⟩
  keep := fun i h h' st k => by
    obtain ⟨hz, hTI, ⟨a, b', hTO⟩, q1, q2⟩ := st
    exact ⟨k z (by simp) _ hz, k TI (by simp) _ hTI, ⟨a, b', k TO (by simp) _ hTO⟩, q1.at fun o e => k i1 (by simp) o e, q2.at fun o e => k i2 (by simp) o e⟩
  item := by
    intro X hP hw hK hc i pins s σ H E I hf st hg
    subst hP hw hK
    obtain ⟨xs, ys, x, y, hx, hy, gx, gy⟩ := hg
    obtain ⟨ix, rx, px, zx⟩ := I.list hx
    obtain ⟨iy, ry, py, zy⟩ := I.list hy
    obtain ⟨u, hu, ru⟩ := rx.get gx
    obtain ⟨v, hv, rv⟩ := ry.get gy
    obtain ⟨hz, hTI, hTO, q1, q2⟩ := st
    have lz : ∀ b ∈ [z, TI, TO, i1, i2], b < s.heap.objs.size := fun b hb => by
      obtain ⟨a, b', hTO⟩ := hTO
      obtain ⟨o1, e1, _⟩ := q1
      obtain ⟨o2, e2, _⟩ := q2
      simp only [List.mem_cons, List.not_mem_nil, or_false] at hb
      rcases hb with rfl | rfl | rfl | rfl | rfl
      · exact Heap.lt_size hz
      · exact Heap.lt_size hTI
      · exact Heap.lt_size hTO
      · exact Heap.lt_size e1
      · exact Heap.lt_size e2
    have W := WalksT.zip2 (prog := X.prog) (w := X.w) (I.ok.hd hc) z TI TO i1 i2 l1 l2 D ix.toArray iy.toArray
    have wrf : ∀ b ∈ [z, TO, i1, i2], FpOk X pins H b := fun b hb => hf b (by simp at hb ⊢; rcases hb with rfl | rfl | rfl | rfl <;> simp)
    refine W.item i s _ _ ?_ ⟨hz, hTI, hTO, q1, q2, px.isList, py.isList⟩ fun T vals h1 tk hP hT hTt mid k1 => ?_
    · have a1 := (List.getElem?_eq_some_iff.mp hu).1
      have a2 := (List.getElem?_eq_some_iff.mp hv).1
      simp; omega
    obtain ⟨u', v', e1, e2, e3⟩ := hP
    have e1 : u = u' := by simp at e1 hu; rw [hu] at e1; exact Option.some.inj e1
    have e2 : v = v' := by simp at e2 hv; rw [hv] at e2; exact Option.some.inj e2
    subst e1 e2 e3
    have nT := W.apart _ _ _ mid
    refine ⟨_, rfl, W.go elts kk pos i T _ _ _ mid fun h2 st2 k2 => ?_⟩
    have k12 : ∀ b o, b ∉ [z, TO, i1, i2] → s.heap.get? b = some o → h2.get? b = some o := fun b o hb e => k2 b o hb (k1 b o hb e)
    have I2 : Inv X pins σ H { s with heap := h2, toks := tk } := I.turnedL k12 wrf
    have fT := I.fpOk (H' := H) hT (I.hok.fresh hT)
    refine ⟨.ref T, upd H T (.tup [x, y]), I2.track fT.1 (I.new0 hT) fT.2.1 fT.2.2.2.2.1 fT.2.2.2.2.2 ⟨two_line, [u, v], .cons ru (.cons rv .nil), ?_⟩, rfl, ⟨T, x, y, fT.1, rfl, rfl, fun xs' ys' hx' hy' => ?_⟩, ?_, fun b hb => ?_⟩
    · obtain ⟨o, e, c, n, d⟩ := hTt
      exact ⟨o, k2 T o nT e, c, n, d⟩
    · rw [I.list_inj hx' hx, I.list_inj hy' hy]; exact ⟨gx, gy⟩
    · exact ⟨st2.1, st2.2.1, st2.2.2.1, st2.2.2.2.1, st2.2.2.2.2.1⟩
    · rw [upd_ne (Nat.ne_of_lt (Nat.lt_of_lt_of_le (lz b hb) hT))]; exact (hf b hb).1
  done := by
    intro X hP hw hK hc i pins s σ H E I hf st hg
    subst hP hw hK
    obtain ⟨xs, ys, hx, hy, hi⟩ := hg
    obtain ⟨ix, rx, px, zx⟩ := I.list hx
    obtain ⟨iy, ry, py, zy⟩ := I.list hy
    obtain ⟨hz, hTI, hTO, q1, q2⟩ := st
    have W := WalksT.zip2 (prog := X.prog) (w := X.w) (I.ok.hd hc) z TI TO i1 i2 l1 l2 D ix.toArray iy.toArray
    have wrf : ∀ b ∈ [z, TO, i1, i2], FpOk X pins H b := fun b hb => hf b (by simp at hb ⊢; rcases hb with rfl | rfl | rfl | rfl <;> simp)
    have en : min ix.toArray.size iy.toArray.size = i := by have := rx.length; have := ry.length; simp; omega
    rw [en] at W
    exact W.done s _ _ ⟨hz, hTI, hTO, q1, q2, px.isList, py.isList⟩ fun h' tk k => ⟨rfl, I.turnedL k wrf⟩
  self := fun _ _ _ _ _ st h => wpAny_pyIter_zip st.1 h

theorem bt_zip : bootBuiltins "zip" = some (.type "zip") := by decide +kernel
section
variable {X : Cx} {σ : St} {H : Hp} {a b : Expr} {p pos : Pos}
theorem wi_zip {elts : List Expr} {kk : Nat} {tp : Pos} {R : It → Hp → Prop} (hm : X.mg "zip" = none) (q : WA X [a, b] σ H fun vs H1 => ∃ l1 l2, vs = [.ref l1, .ref l2] ∧ (∃ xs, SqL X.K H1 l1 xs) ∧ (∃ ys, SqL X.K H1 l2 ys) ∧ R (Itz X.K l1 l2) H1) (hg : Gl X "zip" := by rfl)
    (hs : starEach [a, b] X.env = [(false, eval a X.env), (false, eval b X.env)] := by rfl) (hs2 : starEach [b] X.env = [(false, eval b X.env)] := by rfl) : WI X (.Tuple elts kk tp) (.Call (.Name "zip" p) [a, b] [] pos) σ H R := by
  intro pins s I
  refine Call_ (ld_blt I hg hm bt_zip (PyProof.Rows.callWith_type1 (thn (q pos pins s I) fun us s1 ⟨vs, H1, I1, r1, q1⟩ => ?_) (by rw [hs, hs2]) (by rw [hs2]; rfl)))
  obtain ⟨l1, l2, e, ⟨xs, hx⟩, ⟨ys, hy⟩, q⟩ := q1
  subst e
  cases r1 with
  | cons r rr =>
    cases rr with
    | cons r' rr =>
      cases rr
      cases r
      cases r'
      obtain ⟨ix, rx, px, zx⟩ := I1.list hx
      obtain ⟨iy, ry, py, zy⟩ := I1.list hy
      have a1 : l1 < s1.heap.objs.size := by obtain ⟨_, e, _⟩ := px.isList; exact Heap.lt_size e
      have a2 : l2 < s1.heap.objs.size := by obtain ⟨_, e, _⟩ := py.isList; exact Heap.lt_size e
      refine call_zip_2 px.isList py.isList fun h' hz hTI hTO q1 q2 _ k => wpAny_pyIter_zip hz ?_
      refine ⟨_, _, _, _, H1, rfl, I1.kept (t' := s1.toks) k, turn_zip _ _ _ _ _ _ _ (zipApart_new a1 a2), ⟨hz, hTI, ⟨_, _, hTO⟩, q1, q2⟩, fun b hb => ?_, q⟩
      have hb : s1.heap.objs.size ≤ b := by
        simp only [List.mem_cons, List.not_mem_nil, or_false] at hb
        rcases hb with rfl | rfl | rfl | rfl | rfl <;> simp
      exact I1.fpOk hb (I1.hok.fresh hb)
end
end L2

/-! part Ext9 -/
set_option Elab.async false
set_option linter.all false
set_option maxRecDepth 100000
set_option maxHeartbeats 4000000
/-! MY OWN LAYER 9: two names at once in comprehensions and loops -/
namespace L2
open PySem PySem.Spec PyProof.Rows
/-- as CompW, each item a pair -/
def CompW2 (J : It) (ti : TT) (te : TE) (σ' : St) (Q : VK) (D : Addr) (H : Hp) : Prop :=
  ∃ W : Nat → Nat → Hp → Prop, (∃ m, W 0 m (upd H D (.lst []))) ∧ ∀ i m H, W i m H →
    (J.stop i H ∧ Q (.ref D) H) ∨ (J.go i H ∧ ∀ v H', J.yld i H v H' → ∃ t a b, v = .ref t ∧ H' t = some (.tup [a, b]) ∧ ti ((σ'.set 0 (some a)).set 1 (some b)) H' fun k H2 =>
      if k = true then te ((σ'.set 0 (some a)).set 1 (some b)) H2 fun v H3 => ∃ xs, H3 D = some (.lst xs) ∧ xs.length < sizeLine ∧ ∃ m', m' < m ∧ W (i + 1) m' (upd H3 D (.lst (xs ++ [v])))
      else ∃ m', m' < m ∧ W (i + 1) m' H2)
section
variable {X : Cx} {pins : List (Addr × Obj)} {σ σ' : St} {H : Hp} {s : Shared} {elt iter : Expr} {ifs : List Expr} {x : Str} {px pos : Pos} {sc : Scope} {N' : List Str} {cl : List (Str × Addr)} {it : Addr} {fp : List Addr} {tn : Nat → Heap → Prop} {J : It} {y' : Str} {py' pt : Pos} {kt : Nat}

theorem comp_block2 {E : Value → Shared → Prop} {RR : Value → Addr → Result → Shared → Prop} {te : TE} {ti : TT} {Q : VK} (hc : X.calm = true) (cp : Caps X sc N' σ σ' x) (vy : sc.names.lookup y' = some .local) (n1 : N'[1]? = some y') (z1 : σ'[1]? = some none) (I : Inv X pins σ H s)
    (T : Turn X.prog X.w X.K (.Tuple [.Name x px, .Name y' py'] kt pt) J fp it tn) (st : tn 0 s.heap) (f : ∀ b ∈ fp, FpOk X pins H b)
    (c1 : ∀ y c, cl.lookup y = some c → X.env.cells.lookup y = some c) (c2 : ∀ y ∈ sc.names, y.2 = .free → ∃ c, cl.lookup y.1 = some c)
    (he : ∀ C s H fp, PE (cxComp X sc N' cl C s H fp) elt te) (hi : ∀ C s H fp, PIfs (cxComp X sc N' cl C s H fp) ifs ti)
    (q : ∀ D, H D = none → CompW2 J ti te σ' Q D H)
    (fin : ∀ D C H' s' m, Inv X pins σ H' s' → s'.heap.Ns C m → FpOk X pins H' C → C ≠ D → Q (.ref D) H' → RR (.ref D) C (.ok .next) s') :
    wpAny (model X.prog X.w) X.A (newList []) (fun acc s₃ => wpAny (model X.prog X.w) X.A (newFunctionEnv sc X.env.globals cl [] X.env.qual none .none (some X.env)) (fun cenv s₄ =>
      codeAny (model X.prog X.w) X.A (.compStart (.ListComp elt [⟨.Tuple [.Name x px, .Name y' py'] kt pt, iter, ifs, 0⟩] sc pos) 0 (.ref it) acc { cenv with scope := relabel sc X.env }) (RR acc cenv.locals) s₄) E s₃) E s := by
  refine wpAny_newObj_type ?_
  have I3 : Inv X pins σ (upd H s.heap.objs.size (.lst [])) { s with heap := s.heap.push { cls := .type "list", dict := none, data := .seq ([] : List Value).toArray } } := I.lnew (its := []) (ys := []) (t' := s.toks) .nil (Nat.zero_le _)
  have hD : H s.heap.objs.size = none := I.fresh
  have fpl : ∀ b ∈ fp, b < s.heap.objs.size := fun b hb => by
    obtain ⟨o, e, _⟩ := T.obj _ _ st b hb
    exact Heap.lt_size e
  obtain ⟨W, ⟨m0, w0⟩, turn⟩ := q _ hD
  have f3 : ∀ b ∈ fp, FpOk X pins (upd H s.heap.objs.size (.lst [])) b := fun b hb => ⟨by rw [upd_ne (Nat.ne_of_lt (fpl b hb))]; exact (f b hb).1, (f b hb).2⟩
  refine wpAny_newFunctionEnv cp.nocell (by intro y hy; simp at hy) (fun h₁ hns₁ hsb₁ => ?_) cp.kind
  generalize hs3 : ({ s with heap := s.heap.push { cls := .type "list", dict := none, data := .seq ([] : List Value).toArray } } : Shared) = s3 at I3 hns₁ hsb₁ ⊢
  have sz3 : s3.heap.objs.size = s.heap.objs.size + 1 := by rw [← hs3]; exact Heap.size_push ..
  have old : ∀ b o, s3.heap.get? b = some o → h₁.get? b = some o := fun b o e => hsb₁.extBut b o (Nat.ne_of_lt (Heap.lt_size e)) (Heap.get?_push_of_some _ e)
  have fpl3 : ∀ b ∈ fp, b < s3.heap.objs.size := fun b hb => by rw [sz3]; exact Nat.lt_succ_of_lt (fpl b hb)
  have J0 := comp_start (N' := N') (tk := s3.toks + ([] : List (Str × Value)).length) cp I3 f3 fpl3 c1 c2 hns₁ old
  have st1 : tn 0 h₁ := T.keep _ _ _ st fun b hb o e => old b o (by rw [← hs3]; exact Heap.get?_push_of_some _ e)
  -- the iterator's objects within the block
  have fin0 : ∀ {Hc : Hp}, (∀ b ∈ fp, Hc b = none) → ∀ b ∈ fp, FpOk (cxComp X sc N' cl s3.heap.objs.size s3 (upd H s.heap.objs.size (.lst [])) fp) [] Hc b := fun hn b hb =>
    ⟨hn b hb, Nat.ne_of_lt (fpl3 b hb), J0.ok.exfs b hb, .inl hb, fun y c e => (f b hb).2.2.2.2.1 y c (c1 y c e), fun p hp => absurd (show p ∈ ([] : List (Addr × Obj)) from hp) (by simp)⟩
  have loop : ∀ s4 : Shared, s4 = { s3 with heap := h₁, toks := s3.toks + ([] : List (Str × Value)).length } →
      codeAny (model X.prog X.w) X.A (.compLoop (.ListComp elt [⟨.Tuple [.Name x px, .Name y' py'] kt pt, iter, ifs, 0⟩] sc pos) 0 (.ref it) (.ref s.heap.objs.size) (compEnvC sc cl s3.heap.objs.size X.env)) (RR (.ref s.heap.objs.size) s3.heap.objs.size) s4 := by
    rintro s4 rfl
    refine codeAny_compLoop_own (fun n s' => ∃ i Hc, Inv (cxComp X sc N' cl s3.heap.objs.size s3 (upd H s.heap.objs.size (.lst [])) fp) [] σ' Hc s' ∧ tn i s'.heap ∧ (∀ b ∈ fp, Hc b = none) ∧ W i n Hc) ?_ m0
      ⟨0, _, J0, st1, fun b hb => (f3 b hb).1, w0⟩
    rintro n s5 ⟨i, Hc, J5, st5, fr5, w5⟩
    rcases turn i n Hc w5 with ⟨stop, qn⟩ | ⟨go, step⟩
    · refine thn (T.done (cxComp X sc N' cl s3.heap.objs.size s3 (upd H s.heap.objs.size (.lst [])) fp) rfl rfl rfl hc i [] s5 σ' Hc _ J5 (fin0 fr5) st5 stop) fun r s6 ⟨hr, J6⟩ => ?_
      subst hr
      have I6 : Inv X pins σ Hc s6 := I3.call' J6.os J6.base J6.hok J6.bare fun b hb => ⟨(f b hb).2.2.2.1, (f b hb).2.1, (f b hb).2.2.2.2.1, (f b hb).2.2.2.2.2⟩
      obtain ⟨m6, hn6, _⟩ := J6.loc
      refine fin _ _ Hc s6 m6 I6 hn6 ?_ (by rw [sz3]; exact Nat.succ_ne_self _) qn
      refine ⟨J6.free, Nat.ne_of_gt (Nat.lt_of_lt_of_le I3.lt (Nat.le_refl _)), I3.nofs (Nat.le_refl _), .inr I3.sz, fun y c e z => ?_, fun p hp z => ?_⟩
      · obtain ⟨v, o, ho, _⟩ := I3.cell y c e
        exact absurd (Heap.lt_size ho) (by rw [z]; exact Nat.lt_irrefl _)
      · exact absurd (Heap.lt_size (I3.pin p hp).1) (by rw [z]; exact Nat.lt_irrefl _)
    · refine thn (T.item (cxComp X sc N' cl s3.heap.objs.size s3 (upd H s.heap.objs.size (.lst [])) fp) rfl rfl rfl hc i [] s5 σ' Hc _ J5 (fin0 fr5) st5 go) fun r s6 ⟨u, hr, h6⟩ => ?_
      subst hr
      refine thn h6 fun _ s7 ⟨v, H7, J7, r7, y7, st7, fr7⟩ => ?_
      have J7' := J7.pinned (fin0 fr7) (T.obj _ _ st7)
      obtain ⟨tt, va, vb, e7, h7t, step7⟩ := step v H7 y7
      subst e7
      have PGt : PG (cxComp X sc N' cl s3.heap.objs.size s3 (upd H s.heap.objs.size (.lst [])) fp) (.Tuple [.Name x px, .Name y' py'] kt pt) (gTup X.K 2 (gCons (gName 0) (gCons (gName 1) gNil))) :=
        pg_tup (X := cxComp X sc N' cl s3.heap.objs.size s3 (upd H s.heap.objs.size (.lst [])) fp) hc (pgs_cons (pg_name cp.nd cp.n0 (.inl (lookup_relabel_local cp.var)) (.inr (lookup_relabel_local cp.var))) (pgs_cons (pg_name cp.nd n1 (.inl (lookup_relabel_local vy)) (.inr (lookup_relabel_local vy))) pgs_nil))
      refine thn (PGt _ s7 σ' H7 (.ref tt) u (fun σ8 H8 => σ8 = (σ'.set 0 (some va)).set 1 (some vb) ∧ H8 = H7) J7' r7 ⟨tt, _, rfl, SqT.of h7t, rfl, _, _, rfl, _, _, rfl, rfl, rfl, rfl⟩) fun _ s8 ⟨σ8, H8, J8, e8, e8'⟩ => ?_
      subst e8 e8'
      have more : ∀ {H' : Hp} {s' : Shared} {m' : Nat}, Inv (cxComp X sc N' cl s3.heap.objs.size s3 (upd H s.heap.objs.size (.lst [])) fp) ([] ++ pinsAt fp s7.heap) ((σ'.set 0 (some va)).set 1 (some vb)) H' s' → m' < n → W (i + 1) m' H' →
          ∃ m, m < n ∧ ∃ i Hc, Inv (cxComp X sc N' cl s3.heap.objs.size s3 (upd H s.heap.objs.size (.lst [])) fp) [] σ' Hc s' ∧ tn i s'.heap ∧ (∀ b ∈ fp, Hc b = none) ∧ W i m Hc := fun {H' s' m'} J' hm w' => by
        refine ⟨m', hm, i + 1, H', J'.unpinned.weak (by simp) (fun k z e => ?_), T.keep _ _ _ st7 fun b hb o e => (J'.pin (b, o) (List.mem_append_right _ (List.mem_append_right _ (mem_pinsAt hb e)))).1, fun b hb => ?_, w'⟩
        · by_cases hk : k = 0
          · subst hk; rw [cp.s0] at e; cases e
          · by_cases hk1 : k = 1
            · subst hk1; rw [z1] at e; cases e
            · rw [List.getElem?_set_ne (Ne.symm hk1), List.getElem?_set_ne (Ne.symm hk)]; exact e
        · obtain ⟨o, e, d⟩ := T.obj _ _ st7 b hb
          exact (J'.pin (b, o) (List.mem_append_right _ (List.mem_append_right _ (mem_pinsAt hb e)))).2.1
      refine thn (hi _ _ _ _ _ s8 _ _ _ J8 step7) fun ok s9 ⟨H9, J9, q9⟩ => ?_
      cases ok with
      | false =>
        rw [if_neg Bool.false_ne_true] at q9 ⊢
        obtain ⟨m', hm, w'⟩ := q9
        exact more J9 hm w'
      | true =>
        rw [if_pos rfl] at q9 ⊢
        refine thn (he _ _ _ _ _ s9 _ H9 _ J9 q9) fun xv s10 ⟨y, H10, J10, r10, xs, hD10, hlt, m', hm, w'⟩ => ?_
        refine thn (mt_append (X := cxComp X sc N' cl s3.heap.objs.size s3 (upd H s.heap.objs.size (.lst [])) fp) _ s10 _ H10 (.ref s.heap.objs.size) [y] (.ref s.heap.objs.size) [xv] (fun _ H' => H' = upd H10 s.heap.objs.size (.lst (xs ++ [y]))) J10 rfl (.cons r10 .nil) ⟨_, xs, y, rfl, rfl, hD10, hlt, rfl⟩) fun _ s11 ⟨_, H11, J11, _, e11⟩ => ?_
        subst e11
        exact more J11 hm w'
  exact codeAny_compStart_list (loop _ rfl) (T.self _ 0 _ _ _ st1 (loop _ rfl))

/-- [elt for x in iter if ..] as a value -/
theorem we_comp2 {Q : VK} (N' : List Str) (σ' : St) (hc : X.calm = true) (cp : Caps X sc N' σ σ' x) (vy : sc.names.lookup y' = some .local) (n1 : N'[1]? = some y') (z1 : σ'[1]? = some none) (q : WI X (.Tuple [.Name x px, .Name y' py'] kt pt) iter σ H fun J H1 => ∀ D, H1 D = none → CompW2 J (WTc X sc N' ifs) (WEc X sc N' elt) σ' Q D H1)
    (hs : ∀ x, foldedSetIterable iter X.env x = pure x := by intro _; rfl) : WE X (.ListComp elt [⟨.Tuple [.Name x px, .Name y' py'] kt pt, iter, ifs, 0⟩] sc pos) σ H Q := by
  intro pins s I
  obtain ⟨cl, k1, c1, c2⟩ := closure_ex (env := X.env) sc (fun y hy hf => I.ok.has y.1 (cp.here y hy hf))
  rw [eval_ListComp]
  refine wpAny_comprehension_free (use := none) rfl hs k1 cp.kind cp.names (thn (q pins s I) fun v s1 h1 => thn h1 fun itv s2 h2 => ?_)
  obtain ⟨it, fp, tn, J, H2, e, I2, T, st2, f2, W⟩ := h2
  subst e
  refine comp_block2 (RR := fun acc C => compPost (model X.prog X.w) X.A X.xe none (EP X pins σ Q) acc C) hc cp vy n1 z1 I2 T st2 f2 c1 c2 (pe_c cl) (pt_c cl) W ?_
  intro D C H' s' m I' hn fC _ qq
  exact ⟨m, hn, fun h' hs' => ⟨.ref D, H', I'.turned (it := C) (h' := h') (t' := s'.toks) (fun b o hb e => hs'.extBut b o hb e) fC.1 fC.2.1 fC.2.2.2.1 fC.2.2.2.2.1 fC.2.2.2.2.2, rfl, qq⟩⟩
end


/-- what must be seen of the text -/
def CapsP2 (ON : List Str) (osc sc : Scope) (x y : Str) (js : List Nat) : Prop :=
  sc.kind = .function ∧ (∀ y ∈ sc.names, y.2 ≠ .cell) ∧ (∀ y ∈ sc.names, y.2 = .free → (osc.names.lookup y.1 = some .cell ∨ osc.names.lookup y.1 = some .free)) ∧ (∀ y ∈ sc.names, y.2 = .local → sc.names.lookup y.1 = some .local) ∧
    sc.names.lookup x = some .local ∧ sc.names.lookup y = some .local ∧ (x :: y :: js.map fun j => ON.getD j "").Nodup ∧ ∀ j ∈ js, j < ON.length ∧ sc.names.lookup (ON.getD j "") = some .free
instance (ON : List Str) (osc sc : Scope) (x y : Str) (js : List Nat) : Decidable (CapsP2 ON osc sc x y js) := by unfold CapsP2; infer_instance
abbrev capN2 (ON : List Str) (x y : Str) (js : List Nat) : List Str := x :: y :: js.map fun j => ON.getD j ""
abbrev capS2 (σ : St) (js : List Nat) : St := none :: none :: js.map fun j => (σ[j]?).getD none
theorem caps_of2 {X : Cx} {ON : List Str} {osc sc : Scope} {x y : Str} {js : List Nat} {σ : St} (hN : X.N = ON) (ho : X.env.scope = osc) (c : CapsP2 ON osc sc x y js) : Caps X sc (capN2 ON x y js) σ (capS2 σ js) x := by
  obtain ⟨c1, c2, c3, c4, c5, c5', c6, c7⟩ := c
  subst hN ho
  refine ⟨c1, c2, c3, c4, c5, c6, rfl, rfl, by simp, fun i y v e1 e2 => ?_⟩
  cases i with
  | zero => cases e2
  | succ i =>
    cases i with
    | zero => cases e2
    | succ i =>
      have e1 : (js.map fun j => X.N.getD j "")[i]? = some y := by simpa using e1
      have e2 : (js.map fun j => (σ[j]?).getD none)[i]? = some (some v) := by simpa using e2
      rw [List.getElem?_map] at e1 e2
      cases hj : js[i]? with
      | none => rw [hj] at e1; cases e1
      | some j =>
        rw [hj] at e1 e2
        have e1 : X.N.getD j "" = y := Option.some.inj e1
        have e2 : (σ[j]?).getD none = some v := Option.some.inj e2
        obtain ⟨k1, k2⟩ := c7 j (List.mem_of_getElem? hj)
        rw [e1] at k2
        refine ⟨k2, j, ?_, ?_⟩
        · rw [← e1, List.getD_eq_getElem?_getD, List.getElem?_eq_getElem k1]; rfl
        · cases hs : σ[j]? with
          | none => rw [hs] at e2; cases e2
          | some o => rw [hs] at e2; rw [← e2]; rfl
section
variable {X : Cx} {σ : St} {H : Hp} {elt iter : Expr} {ifs : List Expr} {x y' : Str} {px py' pt pos : Pos} {kt : Nat} {sc osc : Scope} {ON : List Str} {Q : VK}
theorem we_compJ2 (ON : List Str) (osc : Scope) (js : List Nat) (cp : CapsP2 ON osc sc x y' js)
    (q : WI X (.Tuple [.Name x px, .Name y' py'] kt pt) iter σ H fun J H1 => ∀ D, H1 D = none → CompW2 J (WTc X sc (capN2 ON x y' js) ifs) (WEc X sc (capN2 ON x y' js) elt) (capS2 σ js) Q D H1)
    (hc : X.calm = true := by rfl) (hN : X.N = ON := by rfl) (ho : X.env.scope = osc := by rfl)
    (hs : ∀ x, foldedSetIterable iter X.env x = pure x := by intro _; rfl) : WE X (.ListComp elt [⟨.Tuple [.Name x px, .Name y' py'] kt pt, iter, ifs, 0⟩] sc pos) σ H Q :=
  we_comp2 _ _ hc (caps_of2 hN ho cp) cp.2.2.2.2.2.1 rfl rfl q hs
end

/-! ### the forms one uses -/
section
variable {ti : TT} {te : TE} {σ' : St} {Q : VK} {D : Addr} {H : Hp}
/-- over the pairs of two lists that stay, by an invariant of the turn, the list made so far, the heap -/
theorem compW_zip {K : PySem.W.Frag} {l1 l2 : Addr} {xs ys : List V} (Pv : Nat → List V → Hp → Prop) (h0 : Pv 0 [] (upd H D (.lst []))) (hl : ∀ i zs H, i ≤ min xs.length ys.length → Pv i zs H → H D = some (.lst zs) → SqL K H l1 xs ∧ SqL K H l2 ys)
    (hs : ∀ i x y zs t H, xs[i]? = some x → ys[i]? = some y → Pv i zs H → H D = some (.lst zs) → H t = none → ti ((σ'.set 0 (some x)).set 1 (some y)) (upd H t (.tup [x, y])) fun k H2 =>
      if k = true then te ((σ'.set 0 (some x)).set 1 (some y)) H2 fun v H3 => H3 D = some (.lst zs) ∧ zs.length < sizeLine ∧ Pv (i + 1) (zs ++ [v]) (upd H3 D (.lst (zs ++ [v])))
      else H2 D = some (.lst zs) ∧ Pv (i + 1) zs H2)
    (mt : ∀ σ H (Q Q' : Bool → Hp → Prop), (∀ b H, Q b H → Q' b H) → ti σ H Q → ti σ H Q') (me : ∀ σ H (Q Q' : VK), (∀ b H, Q b H → Q' b H) → te σ H Q → te σ H Q')
    (hd : ∀ zs H, Pv (min xs.length ys.length) zs H → H D = some (.lst zs) → Q (.ref D) H) : CompW2 (Itz K l1 l2) ti te σ' Q D H := by
  refine ⟨fun i m H => m = min xs.length ys.length - i ∧ i ≤ min xs.length ys.length ∧ ∃ zs, H D = some (.lst zs) ∧ Pv i zs H, ⟨_, rfl, Nat.zero_le _, [], upd_same, h0⟩, ?_⟩
  rintro i m H ⟨rfl, hi, zs, hD, p⟩
  obtain ⟨q1, q2⟩ := hl i zs H hi p hD
  by_cases hlt : i < min xs.length ys.length
  · have h1 : i < xs.length := by omega
    have h2 : i < ys.length := by omega
    refine .inr ⟨⟨xs, ys, xs[i], ys[i], q1, q2, by simp [h1], by simp [h2]⟩, fun v H' y => ?_⟩
    obtain ⟨t, a, b, ht, e, e', y⟩ := y
    subst e e'
    obtain ⟨y1, y2⟩ := y xs ys q1 q2
    refine ⟨t, a, b, rfl, upd_same, mt _ _ _ _ (fun k H2 z => ?_) (hs i a b zs t _ y1 y2 p hD ht)⟩
    cases k with
    | true =>
      rw [if_pos rfl] at z ⊢
      exact me _ _ _ _ (fun v H3 ⟨z1, z2, z3⟩ => ⟨zs, z1, z2, _, by omega, rfl, hlt, _, upd_same, z3⟩) z
    | false =>
      rw [if_neg Bool.false_ne_true] at z ⊢
      exact ⟨_, by omega, rfl, hlt, zs, z.1, z.2⟩
  · have e : i = min xs.length ys.length := by omega
    subst e
    exact .inl ⟨⟨xs, ys, q1, q2, rfl⟩, hd zs H p hD⟩
end
section
variable {X : Cx} {sc : Scope} {N' : List Str} {elt : Expr} {σ' : St} {Q : VK} {H : Hp}
end

/-! ### for x, y in .. -/
section
variable {X : Cx} {σ : St} {H : Hp} {nx bk ct : NX} {rt : VK} {pos : Pos}
theorem ws_for2 (j1 j2 : Nat) {x y : Str} {px py pt : Pos} {kt : Nat} {iter : Expr} {body : List Stmt} (hN : X.N.Nodup) (hp : PassesOwn (model X.prog X.w) X.A X.env X.xe) (hc : X.calm = true)
    (q : WI X (.Tuple [.Name x px, .Name y py] kt pt) iter σ H fun J H1 => ∃ W : Nat → Nat → St → Hp → Prop, (∃ m, W 0 m σ H1) ∧ ∀ i m σ H, W i m σ H →
      (J.stop i H ∧ nx σ H) ∨ (J.go i H ∧ ∃ N : St → Hp → Prop, (∀ σ' H', N σ' H' → ∃ m', m' < m ∧ W (i + 1) m' σ' H') ∧ ∀ v H', J.yld i H v H' → ∃ t a b, v = .ref t ∧ H' t = some (.tup [a, b]) ∧ WB X body N rt nx N ((σ.set j1 (some a)).set j2 (some b)) H'))
    (hj1 : X.N[j1]? = some x := by rfl) (hj2 : X.N[j2]? = some y := by rfl) (hx : Loc X.env.scope x := by first | exact Or.inl rfl | exact Or.inr rfl) (hy : Loc X.env.scope y := by first | exact Or.inl rfl | exact Or.inr rfl)
    (hf : X.fn x = true ∨ X.env.scope.names.lookup x = some .local := by first | exact .inl rfl | exact .inr rfl) (hf2 : X.fn y = true ∨ X.env.scope.names.lookup y = some .local := by first | exact .inl rfl | exact .inr rfl)
    (hs : ∀ x, foldedSetIterable iter X.env x = pure x := by intro _; rfl) : WS X (.For (.Tuple [.Name x px, .Name y py] kt pt) iter body [] pos) nx rt bk ct σ H := by
  refine (ps_for hp hc piW (pg_tup hc (pgs_cons (pg_name hN hj1 hx hf) (pgs_cons (pg_name hN hj2 hy hf2) pgs_nil))) pssW hs).wd ?_
  intro pins s I
  refine thn (q pins s I) fun v s1 h1 => thn h1 fun itv s2 h2 => ?_
  obtain ⟨it, fp, tn, J, H2, e, I2, T, st2, f2, W, w0, turn⟩ := h2
  refine ⟨it, fp, tn, J, H2, e, I2, T, st2, f2, W, w0, fun i m σ H hw => ?_⟩
  rcases turn i m σ H hw with h | ⟨go, N, hN, step⟩
  · exact .inl h
  · refine .inr ⟨go, N, hN, fun x H' y => ?_⟩
    obtain ⟨t, a, b, e, ht, z⟩ := step x H' y
    exact ⟨t, _, e, SqT.of ht, rfl, _, _, rfl, _, _, rfl, rfl, z⟩
theorem wf_zip {K : PySem.W.Frag} {l1 l2 : Addr} {xs ys : List V} {body : List Stmt} {j1 j2 : Nat} (Pv : Nat → St → Hp → Prop) (h0 : Pv 0 σ H) (hl : ∀ i σ H, i ≤ min xs.length ys.length → Pv i σ H → SqL K H l1 xs ∧ SqL K H l2 ys)
    (hs : ∀ i x y σ H t, xs[i]? = some x → ys[i]? = some y → Pv i σ H → H t = none → WB X body (Pv (i + 1)) rt nx (Pv (i + 1)) ((σ.set j1 (some x)).set j2 (some y)) (upd H t (.tup [x, y]))) (hd : ∀ σ H, Pv (min xs.length ys.length) σ H → nx σ H) :
    ∃ W : Nat → Nat → St → Hp → Prop, (∃ m, W 0 m σ H) ∧ ∀ i m σ H, W i m σ H →
      ((Itz K l1 l2).stop i H ∧ nx σ H) ∨ ((Itz K l1 l2).go i H ∧ ∃ N : St → Hp → Prop, (∀ σ' H', N σ' H' → ∃ m', m' < m ∧ W (i + 1) m' σ' H') ∧ ∀ v H', (Itz K l1 l2).yld i H v H' → ∃ t a b, v = .ref t ∧ H' t = some (.tup [a, b]) ∧ WB X body N rt nx N ((σ.set j1 (some a)).set j2 (some b)) H') := by
  refine ⟨fun i m σ H => m = min xs.length ys.length - i ∧ i ≤ min xs.length ys.length ∧ Pv i σ H, ⟨_, rfl, Nat.zero_le _, h0⟩, ?_⟩
  rintro i m σ H ⟨rfl, hi, p⟩
  obtain ⟨q1, q2⟩ := hl i σ H hi p
  by_cases hlt : i < min xs.length ys.length
  · have h1 : i < xs.length := by omega
    have h2 : i < ys.length := by omega
    refine .inr ⟨⟨xs, ys, xs[i], ys[i], q1, q2, by simp [h1], by simp [h2]⟩, Pv (i + 1), fun σ' H' p' => ⟨_, by omega, rfl, hlt, p'⟩, fun v H' y => ?_⟩
    obtain ⟨t, a, b, ht, e, e', y⟩ := y
    subst e e'
    obtain ⟨y1, y2⟩ := y xs ys q1 q2
    exact ⟨t, a, b, rfl, upd_same, hs i a b σ _ t y1 y2 p ht⟩
  · have e : i = min xs.length ys.length := by omega
    subst e
    exact .inl ⟨⟨xs, ys, q1, q2, rfl⟩, hd σ H p⟩
end
end L2

/-! part Ext10 -/
set_option Elab.async false
set_option linter.all false
set_option maxRecDepth 100000
set_option maxHeartbeats 4000000
/-! MY OWN LAYER 10: more short forms -/
namespace L2
open PySem PySem.Spec PyProof.Rows

section
variable {X : Cx} {e a b c o : Expr} {es : List Expr} {σ : St} {H : Hp} {Q : VK} {QB : Bool → Hp → Prop} {pos apos cpos p : Pos}
/-! ### lists: +, *, slices -/
theorem we_cat (q : WE X a σ H fun x H1 => WE X b σ H1 fun y H2 => rCat x y H2 Q) : WE X (.BinOp a .Add b pos) σ H Q := (pe_op op_cat peW peW).we q
theorem we_rep (q : WE X a σ H fun x H1 => WE X b σ H1 fun y H2 => rRep x y H2 Q) : WE X (.BinOp a .Mult b pos) σ H Q := (pe_op op_rep peW peW).we q
/-- l[i:j], l[i:], l[:j] -/
theorem we_slice {p2 : Pos} (q : WE X a σ H fun x H1 => WE X b σ H1 fun y H2 => ∃ i, y = .int i ∧ WE X c σ H2 fun z H3 => ∃ j, z = .int j ∧ rSlL X.K x (some i) (some j) H3 Q) : WE X (.Subscript a (.Slice (some b) (some c) none p2) pos) σ H Q :=
  (pe_slice sl_list peW (po_some peW) (po_some peW)).we q
theorem we_sliceA {p2 : Pos} (q : WE X a σ H fun x H1 => WE X b σ H1 fun y H2 => ∃ i, y = .int i ∧ rSlL X.K x (some i) none H2 Q) : WE X (.Subscript a (.Slice (some b) none none p2) pos) σ H Q :=
  (pe_slice sl_list peW (po_some peW) po_none).we q
theorem we_sliceB {p2 : Pos} (q : WE X a σ H fun x H1 => WE X c σ H1 fun y H2 => ∃ i, y = .int i ∧ rSlL X.K x none (some i) H2 Q) : WE X (.Subscript a (.Slice none (some c) none p2) pos) σ H Q :=
  (pe_slice sl_list peW po_none (po_some peW)).we q
theorem cutV_A (xs : List V) (k : Nat) (h : k ≤ xs.length) : cutV xs (some (k : Int)) none = xs.drop k := by
  unfold cutV
  rw [HT.sIx_nat, HT.sIx_none, Nat.min_eq_left h, List.take_of_length_le (by rw [List.length_drop]; exact Nat.le_refl _)]
theorem cutV_B (xs : List V) (k : Nat) (h : k ≤ xs.length) : cutV xs none (some (k : Int)) = xs.take k := by
  unfold cutV
  rw [HT.sIx_nat, HT.sIx_none, Nat.min_eq_left h]; rfl
theorem cutV_AB (xs : List V) (i j : Nat) (h : i ≤ xs.length) (h' : j ≤ xs.length) : cutV xs (some (i : Int)) (some (j : Int)) = (xs.drop i).take (j - i) := by
  unfold cutV
  rw [HT.sIx_nat, HT.sIx_nat, Nat.min_eq_left h, Nat.min_eq_left h']
/-- l.extend(b), l and b tracked -/
theorem we_extend (q : WE X o σ H fun x H1 => ∃ l, x = .ref l ∧ (∃ xs, SqL X.K H1 l xs) ∧ WE X e σ H1 fun y H2 => ∃ b xs zs, y = .ref b ∧ H2 l = some (.lst xs) ∧ H2 b = some (.lst zs) ∧ xs.length + zs.length ≤ sizeLine ∧ Q .non (upd H2 l (.lst (xs ++ zs))))
    (hbase : attributeBase o "extend" X.env (eval o X.env) = eval o X.env := by rfl)
    (hfew : ((backTo cpos (starEach [e] X.env)).all (fun x => !x.1) && (backToKw cpos (keywordEach [] X.env)).all (fun x => x.1.isSome)
      && decide ([e].length + ([] : List Keyword).length + (if ([] : List Keyword).isEmpty then 0 else 1) < 30)) = true := by rfl)
    (hline : (apos.endLine == cpos.line) = true := by rfl) (hs : starEach [e] X.env = (false, eval e X.env) :: starEach [] X.env := by rfl) (hplain : (backTo cpos (starEach [] X.env)).any (·.1) = false := by rfl) :
    WE X (.Call (.Attribute o "extend" apos) [e] [] cpos) σ H Q :=
  we_bm F.plainAttrs_list F.slot_list_extend F.type_list_extend mt_extend (WE.mono q fun x H1 ⟨l, e1, h, k⟩ => ⟨by rw [e1]; exact .inl ⟨rfl, h⟩, wa_cons (WE.mono k fun y H2 ⟨b, xs, zs, e2, z1, z2, z3, z4⟩ => wa_nil ⟨l, b, xs, zs, e1, by rw [e2], z1, z2, z3, z4⟩) hs⟩) hbase hfew hline hs hplain
end

/-! ### max, sum of a list of ints -/
theorem ints_items : ∀ {ns : List Int} {us : List Value}, Vals (ns.map V.int) us → ∃ ps : List (Int × Tok), us = ps.map (fun p => Value.int p.1 p.2) ∧ ps.map (·.1) = ns
  | [], us, r => by rw [List.map_nil] at r; cases r; exact ⟨[], rfl, rfl⟩
  | n :: ns, us, r => by
    rw [List.map_cons] at r
    cases r with
    | cons r1 r2 =>
      obtain ⟨t, rfl⟩ := r1
      obtain ⟨ps, rfl, rfl⟩ := ints_items r2
      exact ⟨(n, t) :: ps, rfl, rfl⟩
theorem items_arr (ps : List (Int × Tok)) : (ps.map (fun p => Value.int p.1 p.2)).toArray = intItems ps.toArray := by unfold intItems; simp
theorem numAt_list (ps : List (Int × Tok)) (i : Nat) : numAt ps.toArray i = (ps.map (·.1)).getD i 0 := by
  unfold numAt
  rw [List.getD_eq_getElem?_getD, List.getElem?_map, List.getElem?_toArray]
theorem best_max (v : Nat → Int) : ∀ k, v (argBest (fun i j => decide (v i > v j)) k) = ((List.range k).map fun i => v (i + 1)).foldl max (v 0)
  | 0 => rfl
  | k + 1 => by
    rw [List.range_succ, List.map_append, List.foldl_append]
    show v (if (decide (v (k + 1) > v (argBest _ k))) = true then k + 1 else argBest _ k) = max (((List.range k).map fun i => v (i + 1)).foldl max (v 0)) (v (k + 1))
    have ih := best_max v k
    by_cases h : v (k + 1) > v (argBest (fun i j => decide (v i > v j)) k)
    · rw [if_pos (by simpa using h)]; rw [← ih]; omega
    · rw [if_neg (by simpa using h), ih]; rw [← ih]; omega
theorem map_shift (x : Int) (l : List Int) : (List.range l.length).map (fun i => (x :: l).getD (i + 1) 0) = l := by
  apply List.ext_getElem?
  intro i
  rw [List.getElem?_map]
  by_cases h : i < l.length
  · rw [List.getElem?_range h]; simp [h]
  · rw [List.getElem?_eq_none (by simp; omega), List.getElem?_eq_none (by omega)]; rfl
theorem best_list (x : Int) (l : List Int) : (x :: l).getD (argBest (fun i j => decide ((x :: l).getD i 0 > (x :: l).getD j 0)) l.length) 0 = l.foldl max x := by
  have := best_max (fun i => (x :: l).getD i 0) l.length
  rw [map_shift] at this
  exact this
section
variable {X : Cx}
theorem call_maxL (hc : X.calm = true) : CallR X (.builtin "max") (fun xs H Q => ∃ (p : Addr) (x : Int) (l : List Int), xs = [.ref p] ∧ SqL X.K H p ((x :: l).map V.int) ∧ Q (.int (l.foldl max x)) H) := by
  intro pins s σ H xs us Q I r h
  obtain ⟨p, x, l, rfl, hq, q⟩ := h
  obtain ⟨u, rfl, rx⟩ := vals1 r
  cases rx
  obtain ⟨its, rv, pl, hl⟩ := I.list hq
  obtain ⟨ps, rfl, hps⟩ := ints_items rv
  have hlen : ps.length = l.length + 1 := by have := congrArg List.length hps; simpa using this
  have ea : ps.toArray.size - 1 = l.length := by simp; omega
  refine max_intList (I.ok.hd hc) (by rw [← items_arr]; exact pl.isList) (by simp; omega) fun v h' tk hv hk => ?_
  rw [ea] at hv
  obtain ⟨t, rfl⟩ := intItems_at hv
  refine ⟨.int (l.foldl max x), H, I.kept (t' := tk) hk, ⟨t, ?_⟩, q⟩
  have e : (fun i j => decide (numAt ps.toArray i > numAt ps.toArray j)) = fun i j => decide ((x :: l).getD i 0 > (x :: l).getD j 0) := by
    funext i j; rw [numAt_list, numAt_list, hps]
  rw [e, numAt_list, hps, best_list]
end

/-! ### max(l, default=d) -/
section
variable {prog : Program} {w : World} {A : Around} {E : Value → Shared → Prop} {s : Shared} {R : Result → Shared → Prop} {I : Addr} {fp wr : List Addr} {n : Nat} {P : Nat → Value → Prop} {Sx : Nat → Heap → Prop}
end
end L2

/-! part Ext11 -/
set_option Elab.async false
set_option linter.all false
set_option maxRecDepth 100000
set_option maxHeartbeats 4000000
/-! MY OWN LAYER 11: more short forms -/
namespace L2
open PySem PySem.Spec PyProof.Rows

/-! ### Python's own functions -/
section
variable {X : Cx} {e a b c o : Expr} {es : List Expr} {σ : St} {H : Hp} {Q : VK} {QB : Bool → Hp → Prop} {pos apos cpos p : Pos}
theorem we_maxL (hc : X.calm = true) (hm : X.mg "max" = none) (q : WE X e σ H fun v H1 => ∃ (l : Addr) (x : Int) (r : List Int), v = .ref l ∧ SqL X.K H1 l ((x :: r).map V.int) ∧ Q (.int (r.foldl max x)) H1) (hg : Gl X "max" := by rfl)
    (he : starEach [e] X.env = (false, eval e X.env) :: starEach [] X.env := by rfl) : WE X (.Call (.Name "max" p) [e] [] pos) σ H Q :=
  we_callB (call_maxL hc) hm bt_max (wa_cons (WE.mono q fun v H1 ⟨l, x, r, e, h, k⟩ => wa_nil ⟨l, x, r, by rw [e], h, k⟩) he) hg (he := he)
/-- int(True), int(3) -/
theorem we_intB (hm : X.mg "int" = none) (q : WE X e σ H fun v H1 => ∃ k : Bool, v = .bl k ∧ Q (.int (if k then 1 else 0)) H1) (hg : Gl X "int" := by rfl)
    (he : starEach [e] X.env = (false, eval e X.env) :: starEach [] X.env := by rfl) : WE X (.Call (.Name "int" p) [e] [] pos) σ H Q :=
  we_callTy call_int1 hm bt_int (wa_cons (WE.mono q fun v H1 ⟨k, e, h⟩ => wa_nil (.inr ⟨k, by rw [e], h⟩)) he) hg (he := he)
/-! ### a op b op c -/
end

/-! ### down a range -/
section
variable {X : Cx} {σ : St} {H : Hp} {a b c : Expr} {p pos : Pos} {nx bk ct : NX} {rt : VK}
end

/-! ### comprehensions whose items are things -/
theorem Prd.mono {α β : Type} {F G : α → β → Prop} (h : ∀ a b, F a b → G a b) : ∀ {l : List α} {m : List β}, Paired F l m → Paired G l m
  | _, _, .nil => .nil
  | _, _, .cons x t => .cons (h _ _ x) (Prd.mono h t)
theorem Prd.len {α β : Type} {F : α → β → Prop} : ∀ {l : List α} {m : List β}, Paired F l m → l.length = m.length
  | _, _, .nil => rfl
  | _, _, .cons _ t => by rw [List.length_cons, List.length_cons, Prd.len t]
theorem Prd.append {α β : Type} {F : α → β → Prop} : ∀ {l l' : List α} {m m' : List β}, Paired F l m → Paired F l' m' → Paired F (l ++ l') (m ++ m')
  | _, _, _, _, .nil, h => h
  | _, _, _, _, .cons x t, h => .cons x (Prd.append t h)
theorem Prd.get {α β : Type} {F : α → β → Prop} : ∀ {l : List α} {m : List β} {i : Nat} {b : β}, Paired F l m → m[i]? = some b → ∃ a, l[i]? = some a ∧ F a b
  | _, _, 0, _, .cons x t, e => by simp at e; subst e; exact ⟨_, rfl, x⟩
  | _, _, i + 1, _, .cons x t, e => by simpa using Prd.get t (i := i) (by simpa using e)
theorem Prd.getL {α β : Type} {F : α → β → Prop} : ∀ {l : List α} {m : List β} {i : Nat} {a : α}, Paired F l m → l[i]? = some a → ∃ b, m[i]? = some b ∧ F a b
  | _, _, 0, _, .cons x t, e => by simp at e; subst e; exact ⟨_, rfl, x⟩
  | _, _, i + 1, _, .cons x t, e => by simpa using Prd.getL t (i := i) (by simpa using e)
section
variable {X : Cx} {sc : Scope} {N' : List Str} {elt : Expr} {ifs : List Expr} {σ' : St} {Q : VK} {H : Hp}
/-- the new things at as, one for each of xs -/
structure Made {α : Type} (T : α → HO → Prop) (H H' : Hp) (D : Addr) (xs : List α) (as : List Addr) : Prop where
  pr : Paired (fun x a => ∃ o, H' a = some o ∧ T x o) xs as
  nd : as.Nodup
  new : ∀ a ∈ as, H a = none ∧ a ≠ D
theorem Made.nil {α : Type} {T : α → HO → Prop} {H H' : Hp} {D : Addr} : Made T H H' D [] [] := ⟨.nil, List.nodup_nil, fun _ h => (nomatch h)⟩
theorem Prd.mem {α β : Type} {F : α → β → Prop} : ∀ {l : List α} {m : List β}, Paired F l m → ∀ b ∈ m, ∃ a ∈ l, F a b
  | _, _, .nil, b, h => (nomatch h)
  | _, _, .cons (a := a) x t, b, h => by
    rcases List.mem_cons.mp h with rfl | h
    · exact ⟨a, by simp, x⟩
    · obtain ⟨c, hc, hF⟩ := Prd.mem t b h
      exact ⟨c, by simp [hc], hF⟩
theorem Prd.mono' {α β : Type} {F G : α → β → Prop} : ∀ {l : List α} {m : List β}, (∀ a b, b ∈ m → F a b → G a b) → Paired F l m → Paired G l m
  | _, _, _, .nil => .nil
  | _, _, h, .cons x t => .cons (h _ _ (by simp) x) (Prd.mono' (fun a b hb => h a b (by simp [hb])) t)
/-- others may have changed, not these -/
theorem Made.keep {α : Type} {T : α → HO → Prop} {H H' H'' : Hp} {D : Addr} {xs : List α} {as : List Addr} (m : Made T H H' D xs as) (k : ∀ b o, b ≠ D → H' b = some o → H'' b = some o) : Made T H H'' D xs as :=
  ⟨Prd.mono' (fun x a ha ⟨o, e, t⟩ => ⟨o, k a o (m.new a ha).2 e, t⟩) m.pr, m.nd, m.new⟩
theorem Made.add {α : Type} {T : α → HO → Prop} {H H' H3 : Hp} {D : Addr} {xs : List α} {as : List Addr} {x : α} {a : Addr} {o : HO} {vs : List V} (m : Made T H H' D xs as) (hD : H' D = some (.lst vs)) (s : Same H' H3) (sH : Same H H') (n : H' a = none) (e : H3 a = some o) (t : T x o) (hDn : H D = none) :
    Made T H (upd H3 D (.lst (vs ++ [.ref a]))) D (xs ++ [x]) (as ++ [a]) := by
  have hne : a ≠ D := fun z => by rw [z, hD] at n; cases n
  have old : ∀ b ∈ as, ∃ o, H' b = some o := fun b hb => by
    obtain ⟨y, _, o, h, _⟩ := Prd.mem m.pr b hb
    exact ⟨o, h⟩
  refine ⟨Paired.snoc (m.keep fun b o hb h => by rw [upd_ne hb]; exact s _ _ h).pr ⟨o, by rw [upd_ne hne]; exact e, t⟩, ?_, fun b hb => ?_⟩
  · refine List.nodup_append.mpr ⟨m.nd, by simp, fun b hb c hc => ?_⟩
    have : c = a := by simpa using hc
    subst this
    obtain ⟨o, h⟩ := old b hb
    exact fun z => by rw [z, n] at h; cases h
  · rcases List.mem_append.mp hb with hb | hb
    · exact m.new b hb
    · have : b = a := by simpa using hb
      subst this
      exact ⟨sH.free n, hne⟩
/-- each item x by itself to a new thing -/
theorem compF_list {K : PySem.W.Frag} {l : Addr} {xs : List V} (T : V → HO → Prop) (p : V → Bool) (hl : SqL K H l xs) (hz : xs.length ≤ 1000)
    (hs : ∀ x H1, x ∈ xs → Same H H1 → WTc X sc N' ifs (σ'.set 0 (some x)) H1 fun k H2 => Same H1 H2 ∧ k = p x ∧ (p x = true → WEc X sc N' elt (σ'.set 0 (some x)) H2 fun v H3 => Same H2 H3 ∧ ∃ a o, v = .ref a ∧ H2 a = none ∧ H3 a = some o ∧ T x o))
    (hd : ∀ D H' as, H D = none → Same H H' → H' D = some (.lst (as.map V.ref)) → Made T H H' D (xs.filter p) as → Q (.ref D) H') (D : Addr) (hD : H D = none) : CompW (Itl K l) (WTc X sc N' ifs) (WEc X sc N' elt) σ' Q D H := by
  refine compW_list (xs := xs) (fun i ys H' => i ≤ xs.length ∧ Same H H' ∧ ∃ as : List Addr, ys = as.map V.ref ∧ Made T H H' D ((xs.take i).filter p) as) ⟨Nat.zero_le _, same_upd hD _, [], rfl, by simp; exact Made.nil⟩ (fun i ys H' _ q _ => q.2.1.seq hl) (fun i x ys H1 hx q hD1 => ?_) (WTc.mono _) (WEc.mono _) (fun ys H' q hD' => ?_)
  · obtain ⟨hi, hS, as, rfl, hM⟩ := q
    have hx' : i < xs.length := (List.getElem?_eq_some_iff.mp hx).1
    have et : xs.take (i + 1) = xs.take i ++ [x] := by rw [List.take_add_one, hx]; rfl
    refine WTc.mono _ _ _ _ _ (fun k H2 ⟨s2, ek, z⟩ => ?_) (hs x H1 (List.mem_of_getElem? hx) hS)
    subst ek
    have hM2 := hM.keep (H'' := H2) fun b o _ h => s2 _ _ h
    cases hp : p x with
    | true =>
      rw [if_pos rfl]
      refine WEc.mono _ _ _ _ _ (fun v H3 ⟨s3, a, o, ev, n2, e3, t⟩ => ?_) (z hp)
      subst ev
      refine ⟨s3 _ _ (s2 _ _ hD1), ?_, hx', fun b o e => by rw [upd_ne (ne_of_none e hD)]; exact s3 _ _ (s2 _ _ (hS _ _ e)), as ++ [a], by rw [List.map_append]; rfl, ?_⟩
      · have hlen := Prd.len hM.pr
        refine small1000 ?_
        rw [List.length_map, ← hlen]
        exact Nat.le_trans (List.length_filter_le _ _) (Nat.le_trans (by rw [List.length_take]; exact Nat.min_le_right _ _) hz)
      · have := hM2.add (s2 _ _ hD1) s3 (hS.trans s2) n2 e3 t hD
        rw [et, List.filter_append]
        rw [show List.filter p [x] = [x] by simp [hp]]
        exact this
    | false =>
      rw [if_neg Bool.false_ne_true]
      refine ⟨s2 _ _ hD1, hx', hS.trans s2, as, rfl, ?_⟩
      rw [et, List.filter_append, show List.filter p [x] = [] by simp [hp], List.append_nil]
      exact hM2
  · obtain ⟨_, hS, as, rfl, hM⟩ := q
    rw [List.take_length] at hM
    exact hd D H' as hD hS hD' hM
end
end L2

/-! part Ext12 -/
set_option Elab.async false
set_option linter.all false
set_option maxRecDepth 100000
set_option maxHeartbeats 4000000
/-! MY OWN LAYER 12: count and index of flat items; isinstance of exceptions, short -/
namespace L2
open PySem PySem.Spec PyProof.Rows
theorem count_eqU {x : V} : ∀ {xs : List V} {us : List Value}, Vals xs us → xs.all flatV = true → us.countP (eqU x) = xs.countP fun y => eqV y x
  | _, _, .nil, _ => rfl
  | y :: xs, u :: us, .cons r t, f => by
    rw [List.all_cons, Bool.and_eq_true] at f
    rw [List.countP_cons, List.countP_cons, eqU_of r f.1, count_eqU t f.2]
section
variable {X : Cx}
def rCount : V → List V → Hp → VK → Prop := fun x vs H Q => ∃ l xs y, x = .ref l ∧ vs = [y] ∧ H l = some (.lst xs) ∧ flatV y = true ∧ xs.all flatV = true ∧ Q (.int ((xs.countP fun z => eqV z y : Nat) : Int)) H
theorem mt_count : MtM X "list.count" rCount := by
  intro pins s σ H x vs v us Q I rx rv h
  obtain ⟨l, xs, y, rfl, rfl, hH, fy, fs, q⟩ := h
  cases rx
  obtain ⟨u, rfl, ru⟩ := rv.one
  obtain ⟨z, its, n, r, hl, e⟩ := I.lstM hH
  refine call_meets F.slot_list_count ⟨_, e, rfl⟩ F.entry_list_count (F.args_list_count_2 _ _) (SeqAt.list_countAt l its.toArray n none #[] u (eqU y)) ⟨e, fun w hw => mem_eqAt ru fy r fs w (by simpa using hw), ?_⟩
  refine ⟨.int ((xs.countP fun z => eqV z y : Nat) : Int), H, I.tok _, ⟨s.toks, ?_⟩, q⟩
  rw [← count_eqU r fs]
def rIndex : V → List V → Hp → VK → Prop := fun x vs H Q => ∃ (l : Addr) (xs : List V) (y : V) (j : Nat) (v : V), x = .ref l ∧ vs = [y] ∧ H l = some (.lst xs) ∧ flatV y = true ∧ xs.all flatV = true ∧ xs[j]? = some v ∧ eqV v y = true ∧ (∀ (i : Nat) w, i < j → xs[i]? = some w → eqV w y = false) ∧ xs.length ≤ 1000 ∧ Q (.int (j : Int)) H
theorem flat_at {xs : List V} {i : Nat} {w : V} (fs : xs.all flatV = true) (e : xs[i]? = some w) : flatV w = true := List.all_eq_true.mp fs w (List.mem_of_getElem? e)
theorem mt_index : MtM X "list.index" rIndex := by
  intro pins s σ H x vs v us Q I rx rv h
  obtain ⟨l, xs, y, j, vj, rfl, rfl, hH, fy, fs, hj, hv, hno, hz, q⟩ := h
  cases rx
  obtain ⟨u, rfl, ru⟩ := rv.one
  obtain ⟨z, its, n, r, hl, e⟩ := I.lstM hH
  have hjl : j < xs.length := (List.getElem?_eq_some_iff.mp hj).1
  have at_ : ∀ (m : Nat) (hm : m < its.toArray.size), ∃ w, xs[m]? = some w ∧ eqU y its.toArray[m] = eqV w y := fun m hm => by
    have hm' : m < xs.length := by rw [hl]; simpa using hm
    obtain ⟨u', hu, ru'⟩ := r.get (List.getElem?_eq_getElem hm')
    refine ⟨xs[m], List.getElem?_eq_getElem hm', ?_⟩
    have : its.toArray[m] = u' := by
      have h2 : its[m]? = some its[m] := List.getElem?_eq_getElem (by simpa using hm)
      rw [hu] at h2
      have := Option.some.inj h2
      simp [this]
    rw [this, eqU_of ru' (flat_at fs (List.getElem?_eq_getElem hm'))]
  have hjs : j < its.toArray.size := by simp; omega
  refine call_meets F.slot_list_index ⟨_, e, rfl⟩ F.entry_list_index (F.args_list_index_2 _ _) (SeqAt.list_indexAt l its.toArray n none #[] u (eqU y) j hjs (by omega) ?_ ?_) ⟨e, fun w hw => mem_eqAt ru fy r fs w (by simpa using hw), ?_⟩
  · obtain ⟨w, hw, ew⟩ := at_ j hjs
    rw [ew]; rw [hj] at hw; cases hw; exact hv
  · intro m hm hlt
    obtain ⟨w, hw, ew⟩ := at_ m hm
    rw [ew]; exact hno m w hlt hw
  · exact ⟨.int (j : Int), H, I.tok _, ⟨s.toks, rfl⟩, q⟩
end
section
variable {X : Cx} {e a b c o : Expr} {es : List Expr} {σ : St} {H : Hp} {Q : VK} {QB : Bool → Hp → Prop} {pos apos cpos p : Pos}
theorem we_count (q : WE X o σ H fun x H1 => ∃ l, x = .ref l ∧ (∃ xs, SqL X.K H1 l xs) ∧ WE X e σ H1 fun y H2 => rCount x [y] H2 Q)
    (hbase : attributeBase o "count" X.env (eval o X.env) = eval o X.env := by rfl)
    (hfew : ((backTo cpos (starEach [e] X.env)).all (fun x => !x.1) && (backToKw cpos (keywordEach [] X.env)).all (fun x => x.1.isSome)
      && decide ([e].length + ([] : List Keyword).length + (if ([] : List Keyword).isEmpty then 0 else 1) < 30)) = true := by rfl)
    (hline : (apos.endLine == cpos.line) = true := by rfl) (hs : starEach [e] X.env = (false, eval e X.env) :: starEach [] X.env := by rfl) (hplain : (backTo cpos (starEach [] X.env)).any (·.1) = false := by rfl) :
    WE X (.Call (.Attribute o "count" apos) [e] [] cpos) σ H Q :=
  we_bm F.plainAttrs_list F.slot_list_count F.type_list_count mt_count (WE.mono q fun x H1 ⟨l, e1, h, k⟩ => ⟨by rw [e1]; exact .inl ⟨rfl, h⟩, wa_cons (WE.mono k fun y H2 z => wa_nil z) hs⟩) hbase hfew hline hs hplain
theorem we_index (q : WE X o σ H fun x H1 => ∃ l, x = .ref l ∧ (∃ xs, SqL X.K H1 l xs) ∧ WE X e σ H1 fun y H2 => rIndex x [y] H2 Q)
    (hbase : attributeBase o "index" X.env (eval o X.env) = eval o X.env := by rfl)
    (hfew : ((backTo cpos (starEach [e] X.env)).all (fun x => !x.1) && (backToKw cpos (keywordEach [] X.env)).all (fun x => x.1.isSome)
      && decide ([e].length + ([] : List Keyword).length + (if ([] : List Keyword).isEmpty then 0 else 1) < 30)) = true := by rfl)
    (hline : (apos.endLine == cpos.line) = true := by rfl) (hs : starEach [e] X.env = (false, eval e X.env) :: starEach [] X.env := by rfl) (hplain : (backTo cpos (starEach [] X.env)).any (·.1) = false := by rfl) :
    WE X (.Call (.Attribute o "index" apos) [e] [] cpos) σ H Q :=
  we_bm F.plainAttrs_list F.slot_list_index F.type_list_index mt_index (WE.mono q fun x H1 ⟨l, e1, h, k⟩ => ⟨by rw [e1]; exact .inl ⟨rfl, h⟩, wa_cons (WE.mono k fun y H2 z => wa_nil z) hs⟩) hbase hfew hline hs hplain
/-- isinstance(e, C), e a caught exception, C an own class -/
theorem we_isC {x : Str} {px : Pos} {C : Addr} (hm : X.mg "isinstance" = none) (hx : X.mg x = some (.ref C)) (q : WE X e σ H fun y H1 => ∃ (z D : Addr) (k : Bool), y = .ref z ∧ H1 z = some (ExcO z D) ∧ ExcI X.K D ∧ PySem.W.kitOne X.K (.ref D) (.ref C) = some k ∧ Q (.bl k) H1) (hg : Gl X "isinstance" := by rfl) (hgx : Gl X x := by rfl) (hdx : (x == ("__debug__" : Str)) = false := by decide)
    (he : starEach [e, .Name x px] X.env = (false, eval e X.env) :: starEach [.Name x px] X.env := by rfl) (he2 : starEach [.Name x px] X.env = (false, eval (.Name x px) X.env) :: starEach [] X.env := by rfl) (hpl : (backTo pos (starEach [.Name x px] X.env)).any (·.1) = false := by rfl) :
    WE X (.Call (.Name "isinstance" p) [e, .Name x px] [] pos) σ H Q :=
  we_callB call_isinstX hm bt_isinstance (wa_cons (WE.mono q fun y H1 ⟨z, D, k, e1, e2, e3, e4, e5⟩ => wa_cons (we_glob (v := .ref C) hx rfl (wa_nil ⟨z, D, .ref C, .ref C, k, by rw [e1], rfl, e2, e3, e4, fun t t' h1 h2 => by cases h1; cases h2; rfl, e5⟩) hgx hdx) he2) he) hg (he := he) (hpl := hpl)
/-- isinstance(e, T), T a built-in class -/
theorem we_isB {x : Str} {T : String} {px : Pos} (hm : X.mg "isinstance" = none) (hx : X.mg x = none) (hv : bootBuiltins x = some (.type T)) (q : WE X e σ H fun y H1 => ∃ (z D : Addr) (k : Bool), y = .ref z ∧ H1 z = some (ExcO z D) ∧ ExcI X.K D ∧ PySem.W.kitOne X.K (.ref D) (.type T) = some k ∧ Q (.bl k) H1) (hg : Gl X "isinstance" := by rfl) (hgx : Gl X x := by rfl) (hnx : x ≠ "__name__" := by decide) (hdx : (x == ("__debug__" : Str)) = false := by decide)
    (he : starEach [e, .Name x px] X.env = (false, eval e X.env) :: starEach [.Name x px] X.env := by rfl) (he2 : starEach [.Name x px] X.env = (false, eval (.Name x px) X.env) :: starEach [] X.env := by rfl) (hpl : (backTo pos (starEach [.Name x px] X.env)).any (·.1) = false := by rfl) :
    WE X (.Call (.Name "isinstance" p) [e, .Name x px] [] pos) σ H Q :=
  we_callB call_isinstX hm bt_isinstance (wa_cons (WE.mono q fun y H1 ⟨z, D, k, e1, e2, e3, e4, e5⟩ => wa_cons (we_bltn (v := .ty T) hx hv rfl (wa_nil ⟨z, D, .ty T, .type T, k, by rw [e1], rfl, e2, e3, e4, fun t t' h1 h2 => by cases h1; cases h2; rfl, e5⟩) hgx hnx hdx) he2) he) hg (he := he) (hpl := hpl)
theorem bt_value : bootBuiltins "ValueError" = some (.type "ValueError") := by decide +kernel
end
end L2

/-! part LayD -/
set_option Elab.async false
set_option linter.all false
set_option maxRecDepth 100000
set_option maxHeartbeats 4000000
namespace L2
open PySem PySem.Spec PyProof.Rows

/-! ### lists of pairs as tables -/
section
variable {κ : Type} [DecidableEq κ]
def valV (kvs : List (κ × V)) (k : κ) : Option V := (kvs.find? fun kv => decide (kv.1 = k)).map (·.2)
/-- in its place, or at the end -/
def putK (kvs : List (κ × V)) (k : κ) (v : V) : List (κ × V) :=
  if (kvs.any fun kv => decide (kv.1 = k)) = true then kvs.map (fun kv => if kv.1 = k then (kv.1, v) else kv) else kvs ++ [(k, v)]
def dropK (kvs : List (κ × V)) (k : κ) : List (κ × V) := kvs.filter fun kv => decide (kv.1 ≠ k)

theorem valV_pos {p : κ × V} {r : List (κ × V)} {k : κ} (e : p.1 = k) : valV (p :: r) k = some p.2 := by simp [valV, List.find?_cons, e]
theorem valV_neg {p : κ × V} {r : List (κ × V)} {k : κ} (e : ¬ p.1 = k) : valV (p :: r) k = valV r k := by simp [valV, List.find?_cons, e]
theorem valV_any (k : κ) : ∀ kvs : List (κ × V), (kvs.any fun kv => decide (kv.1 = k)) = (valV kvs k).isSome
  | [] => rfl
  | p :: r => by
    rw [List.any_cons]
    by_cases e : p.1 = k
    · simp only [valV_pos e, decide_eq_true e, Bool.true_or, Option.isSome_some]
    · rw [valV_neg e, decide_eq_false e, Bool.false_or]; exact valV_any k r
theorem length_putK (kvs : List (κ × V)) (k : κ) (v : V) : (putK kvs k v).length ≤ kvs.length + 1 := by
  unfold putK
  split
  · rw [List.length_map]; omega
  · rw [List.length_append, List.length_cons, List.length_nil]; omega
theorem putK_new {kvs : List (κ × V)} {k : κ} (v : V) (h : valV kvs k = none) : putK kvs k v = kvs ++ [(k, v)] := by
  unfold putK
  rw [valV_any, h]
  exact if_neg (by decide)

theorem RelO.isSome_eq {o : Option V} {u : Option Value} (r : RelO o u) : o.isSome = u.isSome := by
  cases o with
  | none => cases u with
    | none => rfl
    | some _ => exact (show False from r).elim
  | some _ => cases u with
    | none => exact (show False from r).elim
    | some _ => rfl
theorem RelO.getD {o : Option V} {u : Option Value} {d : V} {d' : Value} (r : RelO o u) (rd : RelV d d') : RelV (o.getD d) (u.getD d') := by
  cases o with
  | none => cases u with
    | none => exact rd
    | some _ => exact (show False from r).elim
  | some _ => cases u with
    | none => exact (show False from r).elim
    | some _ => exact r

/-- raw tables of the same keys -/
theorem KV.val {kvs : List (κ × V)} {vs : List (κ × Value)} (r : KV kvs vs) (k : κ) : RelO (valV kvs k) (valueAt vs k) := by
  unfold KV at r
  induction r with
  | nil => exact True.intro
  | @cons p q ps qs h t ih =>
    obtain ⟨h1, h2⟩ := h
    by_cases e : p.1 = k
    · have e' : q.1 = k := h1.symm.trans e
      have b : valueAt (q :: qs) k = some q.2 := by simp [valueAt, List.find?_cons, e']
      rw [valV_pos e, b]; exact h2
    · have e' : ¬ q.1 = k := fun z => e (h1.trans z)
      have b : valueAt (q :: qs) k = valueAt qs k := by simp [valueAt, List.find?_cons, e']
      rw [valV_neg e, b]; exact ih
theorem KV.any {kvs : List (κ × V)} {vs : List (κ × Value)} (r : KV kvs vs) (k : κ) : (kvs.any fun kv => decide (kv.1 = k)) = vs.any fun kv => decide (kv.1 = k) := by
  unfold KV at r
  induction r with
  | nil => rfl
  | cons h t ih => rw [List.any_cons, List.any_cons, ih, h.1]
theorem KV.repl {kvs : List (κ × V)} {vs : List (κ × Value)} (r : KV kvs vs) (k : κ) {y : V} {u : Value} (ry : RelV y u) :
    KV (kvs.map fun kv => if kv.1 = k then (kv.1, y) else kv) (vs.map fun kv => if kv.1 = k then (kv.1, u) else kv) := by
  unfold KV at r ⊢
  induction r with
  | nil => exact .nil
  | @cons p q ps qs h t ih =>
    rw [List.map_cons, List.map_cons]
    refine .cons ?_ ih
    obtain ⟨h1, h2⟩ := h
    by_cases e : p.1 = k
    · rw [if_pos e, if_pos (h1.symm.trans e)]; exact ⟨h1, ry⟩
    · rw [if_neg e, if_neg (fun z => e (h1.trans z))]; exact ⟨h1, h2⟩
theorem KV.put {kvs : List (κ × V)} {vs : List (κ × Value)} (r : KV kvs vs) (k : κ) {y : V} {u : Value} (ry : RelV y u) : KV (putK kvs k y) (stored vs k u) := by
  unfold putK stored
  rw [r.any k]
  by_cases e : (vs.any fun kv => decide (kv.1 = k)) = true
  · rw [if_pos e, if_pos e]; exact r.repl k ry
  · rw [if_neg e, if_neg e]; exact Paired.snoc r ⟨rfl, ry⟩
theorem KV.drop {kvs : List (κ × V)} {vs : List (κ × Value)} (r : KV kvs vs) (k : κ) : KV (dropK kvs k) (without vs k) := by
  unfold KV at r ⊢
  unfold dropK without
  induction r with
  | nil => exact .nil
  | @cons p q ps qs h t ih =>
    obtain ⟨h1, h2⟩ := h
    rw [List.filter_cons, List.filter_cons]
    by_cases e : p.1 = k
    · have a : ¬ decide (p.1 ≠ k) = true := by simp [e]
      have b : ¬ decide (q.1 ≠ k) = true := by simp [h1.symm.trans e]
      rw [if_neg a, if_neg b]; exact ih
    · have e' : ¬ q.1 = k := fun z => e (h1.trans z)
      have a : decide (p.1 ≠ k) = true := by simp [e]
      have b : decide (q.1 ≠ k) = true := by simp [e']
      rw [if_pos a, if_pos b]; exact .cons ⟨h1, h2⟩ ih
theorem KV.keys {kvs : List (κ × V)} {vs : List (κ × Value)} (r : KV kvs vs) : kvs.map (·.1) = vs.map (·.1) := by
  unfold KV at r
  induction r with
  | nil => rfl
  | cons h t ih => rw [List.map_cons, List.map_cons, ih, h.1]
theorem KV.length {kvs : List (κ × V)} {vs : List (κ × Value)} (r : KV kvs vs) : kvs.length = vs.length := Paired.length r
end


/-! ### a tracked dict, its keys ints and texts or tuples of these -/
theorem kV_is {P : Program} {w : World} {k : Key} {u : Value} (r : RelV (kV k) u) : (mixKind P w).is k u = true := by
  cases k with
  | inl i => obtain ⟨t, e⟩ := (show ∃ t, u = Value.int i t from r); subst e; exact mixKind_int P w i t
  | inr x => obtain ⟨t, e⟩ := (show ∃ t, u = Value.str x t from r); subst e; exact mixKind_str P w x t
theorem items_are {P : Program} {w : World} : ∀ {ks : List Key} {us : List Value}, Vals (ks.map kV) us → ItemsAre (mixKind P w) ks us
  | [], _, r => by rw [List.map_nil] at r; cases r; exact .nil
  | k :: ks, _, r => by
    rw [List.map_cons] at r
    cases r with
    | cons h t => exact .cons (kV_is h) (items_are t)

/-- raw entries of a dict with tuple keys -/
abbrev KT (H : Hp) : List (List Key × V) → List (List Key × Addr × Value) → Prop := Paired fun p q => p.1 = q.1 ∧ H q.2.1 = some (.tup (p.1.map kV)) ∧ RelV p.2 q.2.2
theorem KT.val {H : Hp} {kvs : List (List Key × V)} {xs : List (List Key × Addr × Value)} (r : KT H kvs xs) (k : List Key) : RelO (valV kvs k) ((atKey xs k).map (·.2)) := by
  induction r with
  | nil => exact True.intro
  | @cons p q ps qs h t ih =>
    obtain ⟨h1, _, h2⟩ := h
    by_cases e : p.1 = k
    · have e' : q.1 = k := h1.symm.trans e
      have b : atKey (q :: qs) k = some q.2 := by simp [atKey, List.find?_cons, e']
      rw [valV_pos e, b]; exact h2
    · have e' : ¬ q.1 = k := fun z => e (h1.trans z)
      have b : atKey (q :: qs) k = atKey qs k := by simp [atKey, List.find?_cons, e']
      rw [valV_neg e, b]; exact ih
theorem KT.repl {H : Hp} {kvs : List (List Key × V)} {xs : List (List Key × Addr × Value)} (r : KT H kvs xs) (k : List Key) {y : V} {u : Value} (ry : RelV y u) :
    KT H (kvs.map fun kv => if kv.1 = k then (kv.1, y) else kv) (xs.map (putAt k u)) := by
  induction r with
  | nil => exact .nil
  | @cons p q ps qs h t ih =>
    rw [List.map_cons, List.map_cons]
    refine .cons ?_ ih
    obtain ⟨h1, h2, h3⟩ := h
    unfold putAt
    by_cases e : p.1 = k
    · rw [if_pos e, if_pos (h1.symm.trans e)]; exact ⟨h1, h2, ry⟩
    · rw [if_neg e, if_neg (fun z => e (h1.trans z))]; exact ⟨h1, h2, h3⟩
theorem KT.put {H : Hp} {kvs : List (List Key × V)} {xs : List (List Key × Addr × Value)} (r : KT H kvs xs) (k : List Key) {b : Addr} {y : V} {u : Value} (hb : H b = some (.tup (k.map kV))) (ry : RelV y u) :
    KT H (putK kvs k y) (storedH xs k b u) := by
  have e : (kvs.any fun kv => decide (kv.1 = k)) = (atKey xs k).isSome := by
    rw [valV_any, (r.val k).isSome_eq, Option.isSome_map]
  unfold putK storedH
  rw [e]
  by_cases q : (atKey xs k).isSome = true
  · rw [if_pos q, if_pos q]; exact r.repl k ry
  · rw [if_neg q, if_neg q]; exact Paired.snoc r ⟨rfl, hb, ry⟩
theorem KT.keeps {H H' : Hp} {kvs : List (List Key × V)} {xs : List (List Key × Addr × Value)} (r : KT H kvs xs) (ht : ∀ b ys, H b = some (.tup ys) → H' b = some (.tup ys)) : KT H' kvs xs :=
  Paired.mapP r fun _ _ z => ⟨z.1, ht _ _ z.2.1, z.2.2⟩

section
variable {P : Program} {w : World} {H : Hp} {h : Heap} {a : Addr}
theorem rd_of {u : HO} (ok : HOk P w H h) (e : Rd H a u) : ObjOk P w H h a u := e.ok ok
theorem dk_rd {kvs : List (Key × V)} (ok : HOk P w H h) (e : Rd H a (.dK kvs)) : kvs.length ≤ sizeLine ∧ (a == sysModules) = false ∧ ∃ vs, KV kvs vs ∧ h.DictOf (mixKind P w) a vs :=
  show ObjOk P w H h a (.dK kvs) from rd_of ok e
theorem dk_of {kvs : List (Key × V)} (ok : HOk P w H h) (e : H a = some (.dK kvs)) : kvs.length ≤ sizeLine ∧ (a == sysModules) = false ∧ ∃ vs, KV kvs vs ∧ h.DictOf (mixKind P w) a vs := dk_rd ok (.inl e)
/-- a tracked tuple of ints and texts is a key -/
theorem key_of {ks : List Key} (ok : HOk P w H h) (e : H a = some (.tup (ks.map kV))) : (tupleKind (mixKind P w)).is h ks a := by
  obtain ⟨_, its, r, o, h1, h2, n, h3⟩ := (show ObjOk P w H h a (.tup (ks.map kV)) from ok a _ e)
  exact ⟨o, its.toArray, n, h1, h2, h3, by simpa using items_are r⟩
theorem dt_rd {kvs : List (List Key × V)} (ok : HOk P w H h) (e : Rd H a (.dT kvs)) : kvs.length ≤ sizeLine ∧ (a == sysModules) = false ∧
    ∃ xs, KT H kvs xs ∧ h.DictOfH (tupleKind (mixKind P w)) a xs := by
  obtain ⟨z, y, xs, r, o, es, ep, h1, h2, h3, h4, h5⟩ := (show ObjOk P w H h a (.dT kvs) from rd_of ok e)
  refine ⟨z, y, xs, r, o, es, ep, h1, h2, h3, h4, fun x hx => ?_, h5⟩
  have all : ∀ {l : List (List Key × V)} {m : List (List Key × Addr × Value)}, KT H l m → ∀ x ∈ m, (tupleKind (mixKind P w)).is h x.1 x.2.1 := by
    intro l m q
    induction q with
    | nil => intro x hx; exact nomatch hx
    | @cons p q ps qs hq t ih =>
      intro x hx
      rcases List.mem_cons.mp hx with e | hx
      · subst e
        exact key_of ok (by rw [← hq.1]; exact hq.2.1)
      · exact ih x hx
  exact all r x hx
theorem dt_of {kvs : List (List Key × V)} (ok : HOk P w H h) (e : H a = some (.dT kvs)) : kvs.length ≤ sizeLine ∧ (a == sysModules) = false ∧
    ∃ xs, KT H kvs xs ∧ h.DictOfH (tupleKind (mixKind P w)) a xs := dt_rd ok (.inl e)
end

/-- what the dict at a holds at the key y -/
def DGet (H : Hp) (a : Addr) (y : V) (r : Option V) : Prop :=
  (∃ kvs k, Rd H a (.dK kvs) ∧ y = kV k ∧ r = valV kvs k) ∨ ∃ kvs k b, Rd H a (.dT kvs) ∧ y = .ref b ∧ H b = some (.tup (k.map kV)) ∧ r = valV kvs k
/-- the heap behind a[y] = v -/
def DPut (H : Hp) (a : Addr) (y v : V) (H' : Hp) : Prop :=
  (∃ kvs k, H a = some (.dK kvs) ∧ y = kV k ∧ kvs.length < sizeLine ∧ H' = upd H a (.dK (putK kvs k v))) ∨
  ∃ kvs k b, H a = some (.dT kvs) ∧ y = .ref b ∧ H b = some (.tup (k.map kV)) ∧ kvs.length < sizeLine ∧ H' = upd H a (.dT (putK kvs k v))
theorem DGet.k {H : Hp} {a : Addr} {kvs : List (Key × V)} {k : Key} (e : H a = some (.dK kvs)) : DGet H a (kV k) (valV kvs k) := .inl ⟨kvs, k, .inl e, rfl, rfl⟩
theorem DGet.t {H : Hp} {a b : Addr} {kvs : List (List Key × V)} {k : List Key} (e : H a = some (.dT kvs)) (eb : H b = some (.tup (k.map kV))) : DGet H a (.ref b) (valV kvs k) := .inr ⟨kvs, k, b, .inl e, rfl, eb, rfl⟩
theorem DPut.k {H : Hp} {a : Addr} {kvs : List (Key × V)} {k : Key} {v : V} (e : H a = some (.dK kvs)) (hl : kvs.length < sizeLine) : DPut H a (kV k) v (upd H a (.dK (putK kvs k v))) := .inl ⟨kvs, k, e, rfl, hl, rfl⟩
theorem DPut.t {H : Hp} {a b : Addr} {kvs : List (List Key × V)} {k : List Key} {v : V} (e : H a = some (.dT kvs)) (eb : H b = some (.tup (k.map kV))) (hl : kvs.length < sizeLine) :
    DPut H a (.ref b) v (upd H a (.dT (putK kvs k v))) := .inr ⟨kvs, k, b, e, rfl, eb, hl, rfl⟩


section
variable {X : Cx} {pins : List (Addr × Obj)} {σ : St} {H : Hp} {s : Shared} {a : Addr} {y v : V} {u r : Value} {o : Option V} {A : Around} {E : Value → Shared → Prop}

theorem Inv.big (I : Inv X pins σ H s) : sysModules < s.heap.objs.size := by
  have h : mainGlobals < s.heap.objs.size := (I.mod.glob.keeps I.bk).lt
  exact Nat.lt_trans (by decide) h

/-- d[y], there -/
theorem d_getItem {Q : Value → Shared → Prop} (hu : A.units + 1 < cLine) (I : Inv X pins σ H s) (g : DGet H a y (some v)) (ry : RelV y u) (h : ∀ w' s', Inv X pins σ H s' → RelV v w' → Q w' s') :
    wpAny (model X.prog X.w) A (getItem (.ref a) u) Q E s := by
  rcases g with ⟨kvs, k, e, ey, l⟩ | ⟨kvs, k, b, e, ey, eb, l⟩
  · subst ey
    obtain ⟨z, hd, vs, rel, dd⟩ := dk_rd I.hok e
    obtain ⟨w', hw, rw'⟩ := RelO.some_of (v := v) (o := valueAt vs k) (by rw [l]; exact rel.val k)
    exact wpAny_getItem_of (kV_is ry) dd.mapOf hw (h w' _ (I.tok _) rw')
  · subst ey
    cases (show u = Value.ref b from ry)
    obtain ⟨z, hd, xs, rel, dd⟩ := dt_rd I.hok e
    obtain ⟨w', hw, rw'⟩ := RelO.some_of (v := v) (o := (atKey xs k).map (·.2)) (by rw [l]; exact rel.val k)
    obtain ⟨p, hp, hp2⟩ := Option.map_eq_some_iff.mp hw
    refine wpAny_getItem_heap (tupleKind_room_in1 hu) (key_of I.hok eb) dd hp ?_
    rw [hp2]
    exact h w' _ (I.tok _) rw'
/-- a dict's object is replaced -/
theorem d_write {h' : Heap} {t' : Nat} {ob : HO} (I : Inv X pins σ H s) (mu : Mut (H a)) (hs : Heap.SameBut a s.heap h') (he : ∃ q, h'.get? a = some q) (new : ObjOk X.prog X.w (upd H a ob) h' a ob) :
    Inv X pins σ (upd H a ob) { s with heap := h', toks := t' } :=
  I.write (x := a) (e := a) mu (.inl rfl) (fun b q hb z => (hs.2 b hb).trans z) he new
theorem dk_new {P : Program} {w : World} {H' : Hp} {h' : Heap} {kvs : List (Key × V)} {vs : List (Key × Value)} (z : kvs.length ≤ sizeLine) (hd : (a == sysModules) = false) (rel : KV kvs vs) (dd : h'.DictOf (mixKind P w) a vs) :
    ObjOk P w H' h' a (.dK kvs) := ⟨z, hd, vs, rel, dd⟩
/-- d[y] = v -/
theorem d_setItem {H' : Hp} {Q : Unit → Shared → Prop} (hu : A.units + 1 < cLine) (I : Inv X pins σ H s) (g : DPut H a y v H') (ry : RelV y u) (rv : RelV v r) (h : ∀ s', Inv X pins σ H' s' → Q () s') :
    wpAny (model X.prog X.w) A (setItem (.ref a) u r) Q E s := by
  rcases g with ⟨kvs, k, e, ey, l, eH⟩ | ⟨kvs, k, b, e, ey, eb, l, eH⟩
  · subst ey eH
    obtain ⟨z, hd, vs, rel, dd⟩ := dk_of I.hok e
    have hz : vs.length ≤ sizeLine := by rw [← rel.length]; exact z
    have hl : (putK kvs k v).length ≤ sizeLine := by have := length_putK kvs k v; omega
    refine wpAny_setItem_pairs (hsz := hz) (kV_is ry) dd fun h' dd' hs => h _ ?_
    have he : ∃ q, h'.get? a = some q := let ⟨q, _, _, hq, _⟩ := dd'; ⟨q, hq⟩
    exact d_write I (by rw [e]; exact True.intro) hs he (dk_new hl hd (rel.put k rv) dd')
  · subst ey eH
    cases (show u = Value.ref b from ry)
    obtain ⟨z, hd, xs, rel, dd⟩ := dt_of I.hok e
    have hz : xs.length ≤ sizeLine := by rw [← Paired.length rel]; exact z
    have hl : (putK kvs k v).length ≤ sizeLine := by have := length_putK kvs k v; omega
    refine wpAny_setItem_heap (hsz := hz) (tupleKind_room_in1 hu) (key_of I.hok eb) dd fun h' dd' hs => h _ ?_
    obtain ⟨q, es, ep, hq, h2, h3, h4, _, h5⟩ := dd'
    refine d_write I (by rw [e]; exact True.intro) hs ⟨q, hq⟩ ⟨hl, hd, _, (rel.put k eb rv).keeps fun c ys ec => ?_, q, es, ep, hq, h2, h3, h4, h5⟩
    rw [upd_ne (ne_of ec e (fun z => nomatch z))]
    exact ec
end

section
variable {X : Cx} {pins : List (Addr × Obj)} {σ : St} {H : Hp} {s : Shared} {a : Addr} {kvs : List (Key × V)} {k : Key} {u : Value} {A : Around} {E : Value → Shared → Prop}
end


/-! ### readings and rules -/
/-- the element of a subscription, not a slice -/
def NoSl (i : Expr) : Prop := ∀ ov iv, subscripted i false ov iv = operate [ov, iv] (getItem ov iv)
theorem subD_of {prog : Program} {w : World} {A : Around} {E : Value → Shared → Prop} {s : Shared} {env : Env} {value slice : Expr} {pos : Pos} {T id : String} {Q : Value → Shared → Prop}
    (hl : typeLookup (.type T) "__getitem__" = pure (some (.builtin id))) (hs : NoSl slice)
    (h : wpAny (model prog w) A (eval value env) (fun o s₁ => wpAny (model prog w) A (eval slice env) (fun i s₂ => s₂.TypeIs o T ∧ wpAny (model prog w) A (getItem o i) Q E s₂) E s₁) E s) :
    wpAny (model prog w) A (eval (.Subscript value slice pos) env) Q E s := by
  refine Subscript_ (wpAny_mono h (fun o s₁ h₁ => wpAny_mono h₁ (fun i s₂ h₂ => ?_) fun _ _ x => x) fun _ _ x => x)
  obtain ⟨hT, h₂⟩ := h₂
  unfold subscriptTail
  refine wpAny_bind ?_
  rw [getitemInPython_of_ne hT.not_modules]
  refine wpAny_bind (wpAny_specialOf hT hl ?_)
  have fin : wpAny (model prog w) A (subscripted slice false o i) (fun r s₃ => wpAny (model prog w) A (letTemporaryGo value o r >>= fun _ => pure r) Q E s₃) E s₂ := by
    rw [hs o i]
    exact wpAny_operating (wpAny_mono h₂ (fun r s₃ h₃ => wpAny_bind (wpAny_letTemporaryGo (wpAny_pure h₃))) fun _ _ x => x)
  first
    | exact wpAny_pure (wpAny_bind fin)
    | exact wpAny_bind (wpAny_pure (wpAny_bind fin))
    | exact wpAny_bind fin

theorem dict_typeIs {X : Cx} {pins : List (Addr × Obj)} {σ : St} {H : Hp} {s : Shared} {a : Addr} {y : V} {o : Option V} (I : Inv X pins σ H s) (g : DGet H a y o) : s.TypeIs (.ref a) "dict" := by
  rcases g with ⟨kvs, k, e, _, _⟩ | ⟨kvs, k, b, e, _, _, _⟩
  · obtain ⟨_, _, vs, _, dd⟩ := dk_rd I.hok e
    exact dd.typeIs
  · obtain ⟨_, _, xs, _, dd⟩ := dt_rd I.hok e
    exact dd.typeIs
/-- d[y] -/
def tDGet (td ty : TE) : TE := fun σ H Q => td σ H fun x H1 => ty σ H1 fun y H2 => ∃ a v, x = .ref a ∧ DGet H2 a y (some v) ∧ Q v H2
/-- d[y] = v -/
def sDPut (td ty tv : TE) : TS := fun D σ H => tv σ H fun v H1 => td σ H1 fun x H2 => ty σ H2 fun y H3 => ∃ a H4, x = .ref a ∧ DPut H3 a y v H4 ∧ D.nx σ H4
section
variable {X : Cx} {o i e value : Expr} {pos pos' tpos : Pos} {td ty tv : TE}
theorem pe_dget (hu : X.A.units + 1 < cLine) (ho : PE X o td) (hi : PE X i ty) (hs : NoSl i) : PE X (.Subscript o i pos) (tDGet td ty) := by
  intro pins s σ H Q I h
  refine subD_of PySem.F.slot_dict_getitem.lookup hs (thn (ho pins s σ H _ I h) fun u s1 ⟨x, H1, I1, rx, q1⟩ => thn (hi pins s1 σ H1 _ I1 q1) fun iv s2 ⟨y, H2, I2, ry, a, v, ex, g, q2⟩ => ?_)
  subst ex
  obtain rfl : u = Value.ref a := rx
  exact ⟨dict_typeIs I2 g, d_getItem hu I2 g ry fun w' s3 I3 rw' => ⟨v, H2, I3, rw', q2⟩⟩
theorem ps_dput (hu : X.A.units + 1 < cLine) (ho : PE X o td) (hi : PE X i ty) (hv : PE X value tv) (hs : swapsWith value (some (.Subscript o i pos')) pos.line X.env = pure false) :
    PS X (.Assign [.Subscript o i pos'] value pos) (sDPut td ty tv) := by
  intro pins s σ H D I h
  refine wpAny_Assign_Subscript (thn (hv pins s σ H _ I h) fun r s1 ⟨v, H1, I1, rv, q1⟩ => thn (ho pins s1 σ H1 _ I1 q1) fun u s2 ⟨x, H2, I2, rx, q2⟩ => thn (hi pins s2 σ H2 _ I2 q2) fun iv s3 ⟨y, H3, I3, ry, a, H4, ex, g, q3⟩ => ?_) hs
  subst ex
  obtain rfl : u = Value.ref a := rx
  exact d_setItem hu I3 g ry rv fun s4 I4 => ⟨σ, H4, I4, q3⟩
end


/-! ### displays -/
theorem dk_empty {P : Program} {w : World} {H : Hp} (h : Heap) (hb : sysModules < h.objs.size) : ObjOk P w H (h.push { cls := .type "dict", data := .dict #[] }) h.objs.size (.dK []) :=
  ⟨Nat.zero_le _, beq_eq_false_iff_ne.mpr (Ne.symm (Nat.ne_of_lt hb)), [], .nil, Heap.DictOf.new h⟩
/-- {}, to be a dict of the kind that is wanted -/
def tDNewK : TE := fun _ H Q => ∀ p, H p = none → Q (.ref p) (upd H p (.dK []))
section
variable {X : Cx} {pos : Pos}
theorem pe_dnewK : PE X (.Dict [] [] pos) tDNewK := fun pins s σ H Q I h =>
  wpAny_Dict_empty ⟨.ref s.heap.objs.size, _, I.laid (a := s.heap.objs.size) (o := .dK []) (t' := s.toks) (fun _ _ q => Heap.get?_push_of_some _ q) (Nat.le_refl _) (dk_empty s.heap I.big), rfl, h _ (I.hok.fresh (Nat.le_refl _))⟩
end

end L2

/-! part Ext13l -/
set_option Elab.async false
set_option linter.all false
set_option maxRecDepth 100000
set_option maxHeartbeats 4000000
/-! MY OWN LAYER 13: lists of ints in order: <, >, >= -/
namespace L2
open PySem PySem.Spec PyProof.Rows
open PySem.SeqAt
open PySem.AutoSeq1 (wpAny_loadPart')
open PySem.MeetsSeq PySem.MeetsSeq2 PySem.MeetsSeq3
/-- at the first place where they differ f tells, else z -/
def lexC (f : Int → Int → Bool) (z : Bool) : List Int → List Int → Bool
  | x :: xs, y :: ys => if x = y then lexC f z xs ys else f x y
  | _, _ => z
/-- what op tells of two ints, of two lengths; its place in the table -/
inductive Ordr : CmpOp → Int → (Int → Int → Bool) → (Nat → Nat → Bool) → Prop
  | lt : Ordr .Lt 0 (fun a b => decide (a < b)) (fun m n => decide (m < n))
theorem rc_ord {op : CmpOp} {c : Int} {f : Int → Int → Bool} {z : Nat → Nat → Bool} (o : Ordr op c f z) (A : Around) (s : Shared) (a : Int) (t : Tok) (d : Int) (u : Tok) (prog : Program) (w : World) (E : Value → Shared → Prop) (Q : Value → Shared → Prop) (h : Q (.bool (f a d)) s) :
    wpAny (model prog w) A (richCompare op (.int a t) (.int d u)) Q E s := by
  cases o with
  | lt => exact (PyProof.Rows.lt_int h : wpAny (model prog w) A (compareOp .Lt (.int a t) (.int d u)) Q E s)
theorem ints_nth {vs : List Value} {ns : List Int} (h : IntsAre vs ns) {i : Nat} (hi : i < vs.length) : ∃ t, vs[i]? = some (.int (ns.getD i 0) t) := by
  have hl := h.length
  obtain ⟨t, e⟩ := h.get i (ns.getD i 0) (by rw [List.getD_eq_getElem?_getD, List.getElem?_eq_getElem (by omega)]; rfl)
  exact ⟨t, e⟩
theorem ord_turns {op : CmpOp} {c : Int} {f : Int → Int → Bool} {z : Nat → Nat → Bool} (o : Ordr op c f z) (l b : Addr) (its js : List Value) (n n2 : Nat) (ns ms : List Int) (hi : IntsAre its ns) (hj : IntsAre js ms) (k : Nat) :
    ∀ i : Nat, ns.length - i = k → i ≤ ns.length → i ≤ ms.length → Meets (Builtin.«list.__eq__.loop» ⟨[.ref l, .ref b, rawInt i, rawInt c], []⟩)
      (fun A R s => s.heap.get? l = some { cls := .type "list", data := .seq its.toArray n } ∧ s.heap.get? b = some { cls := .type "list", data := .seq js.toArray n2 } ∧ R (.ok (.ret (.bool (lexC f (z ns.length ms.length) (ns.drop i) (ms.drop i))))) s) := by
  have l1 := hi.length
  have l2 := hj.length
  have stop : ∀ i : Nat, i ≤ ns.length → i ≤ ms.length → (i = ns.length ∨ i = ms.length) → Meets (Builtin.«list.__eq__.loop» ⟨[.ref l, .ref b, rawInt i, rawInt c], []⟩)
      (fun A R s => s.heap.get? l = some { cls := .type "list", data := .seq its.toArray n } ∧ s.heap.get? b = some { cls := .type "list", data := .seq js.toArray n2 } ∧ R (.ok (.ret (.bool (lexC f (z ns.length ms.length) (ns.drop i) (ms.drop i))))) s) := by
    intro i h1 h2 h3 prog w A R s h
    obtain ⟨hp, g, d, tk, os⟩ := s
    obtain ⟨hl, hb, h⟩ := h
    have ez : lexC f (z ns.length ms.length) (ns.drop i) (ms.drop i) = z ns.length ms.length := by
      rcases h3 with rfl | rfl
      · rw [List.drop_length]; cases ms.drop ns.length <;> rfl
      · rw [List.drop_length]; cases ns.drop ms.length <;> rfl
    rw [ez] at h
    have e0 : ((i : Nat) : Int).toNat = i := by omega
    by_cases hlt : i < its.length
    · obtain ⟨t, e1⟩ := ints_nth hi hlt
      have e1 : its.toArray[((i : Nat) : Int).toNat]? = some (.int (ns.getD i 0) t) := by rw [e0]; simpa using e1
      have e2 : js.toArray[((i : Nat) : Int).toNat]? = none := by rw [e0]; simp; omega
      cases o <;>
      · wp_walk using wpAny_loadPart' hl, wpAny_loadPart' hb
        rw [e1, e2]
        wp_walk using wpAny_loadPart' hl, wpAny_loadPart' hb
        rw [List.size_toArray, List.size_toArray, l1, l2]; exact h
    · have e1 : its.toArray[((i : Nat) : Int).toNat]? = none := by rw [e0]; simp; omega
      cases o <;>
      · wp_walk using wpAny_loadPart' hl, wpAny_loadPart' hb
        rw [e1]
        wp_walk using wpAny_loadPart' hl, wpAny_loadPart' hb
        rw [List.size_toArray, List.size_toArray, l1, l2]; exact h
  induction k with
  | zero => exact fun i hk h1 h2 => stop i h1 h2 (.inl (by omega))
  | succ k ih =>
    intro i hk h1 h2
    by_cases hm : i = ms.length
    · exact stop i h1 h2 (.inr hm)
    intro prog w A R s h
    obtain ⟨hp, g, d, tk, os⟩ := s
    obtain ⟨hl, hb, h⟩ := h
    have e0 : ((i : Nat) : Int).toNat = i := by omega
    have x1 : i < ns.length := by omega
    have x2 : i < ms.length := by omega
    obtain ⟨t, e1⟩ := ints_nth hi (i := i) (by omega)
    obtain ⟨u, e2⟩ := ints_nth hj (i := i) (by omega)
    have e1 : its.toArray[((i : Nat) : Int).toNat]? = some (.int (ns.getD i 0) t) := by rw [e0]; simpa using e1
    have e2 : js.toArray[((i : Nat) : Int).toNat]? = some (.int (ms.getD i 0) u) := by rw [e0]; simpa using e2
    have d1 : ns.drop i = ns.getD i 0 :: ns.drop (i + 1) := by rw [List.drop_eq_getElem_cons x1, List.getD_eq_getElem?_getD, List.getElem?_eq_getElem x1]; rfl
    have d2 : ms.drop i = ms.getD i 0 :: ms.drop (i + 1) := by rw [List.drop_eq_getElem_cons x2, List.getD_eq_getElem?_getD, List.getElem?_eq_getElem x2]; rfl
    have ec : ((i : Int) + 1) = ((i + 1 : Nat) : Int) := by push_cast; rfl
    rw [d1, d2] at h
    have h5 : R (.ok (.ret (.bool (if ns.getD i 0 = ms.getD i 0 then lexC f (z ns.length ms.length) (ns.drop (i + 1)) (ms.drop (i + 1)) else f (ns.getD i 0) (ms.getD i 0))))) _ := h
    clear h
    generalize ns.getD i 0 = x at e1 h5
    generalize ms.getD i 0 = y at e2 h5
    by_cases hxy : x = y
    · rw [if_pos hxy] at h5
      have eq := SeqAt.EqAt.int_int (A := A.in1) (s := ⟨hp, g, d, tk, os⟩) x t y u
      rw [show (x == y) = true by simpa using hxy] at eq
      have go := fun (R' : _) (h' : _) => ih (i + 1) (by omega) (by omega) (by omega) prog w A R' ⟨hp, g, d, tk, os⟩ h'
      cases o <;>
      · wp_walk using wpAny_loadPart' hl, wpAny_loadPart' hb
        rw [e1, e2]
        refine wpAny_bind (eq prog w _ _ ?_)
        wp_walk
        rw [ec]
        exact ⟨plainId_quiet plain_eq_loop _, codeAny_builtin entry_eq_loop (by rw [Around.under_plainId plain_eq_loop _]; exact go R ⟨hl, hb, h5⟩)⟩
    · rw [if_neg hxy] at h5
      have eq := SeqAt.EqAt.int_int (A := A.in1) (s := ⟨hp, g, d, tk, os⟩) x t y u
      rw [show (x == y) = false by simpa using hxy] at eq
      have rc := fun (op : CmpOp) (c : Int) (f : Int → Int → Bool) (z : Nat → Nat → Bool) (o : Ordr op c f z) => rc_ord o A.in1 ⟨hp, g, d, tk, os⟩ x t y u prog w
      cases o with
      | lt =>
        have rc := rc _ _ _ _ Ordr.lt
        wp_walk using wpAny_loadPart' hl, wpAny_loadPart' hb
        rw [e1, e2]
        refine wpAny_bind (eq prog w _ _ ?_)
        wp_walk using wpAny_loadPart' hl, wpAny_loadPart' hb
        rw [e1, e2]
        wp_walk using rc
        exact h5
theorem list_ltAt (l b : Addr) (its js : List Value) (n n2 : Nat) (ns ms : List Int) (hi : IntsAre its ns) (hj : IntsAre js ms) : Meets (Builtin.«list.__lt__» ⟨[.ref l, .ref b], []⟩)
      (fun A R s => s.heap.get? l = some { cls := .type "list", data := .seq its.toArray n } ∧ s.heap.get? b = some { cls := .type "list", data := .seq js.toArray n2 } ∧ R (.ok (.ret (.bool (lexC (fun a b => decide (a < b)) (decide (ns.length < ms.length)) ns ms)))) s) := by
  intro prog w A R s h
  obtain ⟨hp, g, d, tk, os⟩ := s
  obtain ⟨hl, hb, h⟩ := h
  have f3 := AutoSeq1.sub_list_list
  wp_walk using wpAny_loadPart' hl, wpAny_loadPart' hb
  exact ⟨plainId_quiet plain_eq_loop _, codeAny_builtin entry_eq_loop (by rw [Around.under_plainId plain_eq_loop _]; exact ord_turns .lt l b its js n n2 ns ms hi hj _ 0 rfl (Nat.zero_le _) (Nat.zero_le _) prog w A R _ ⟨hl, hb, h⟩)⟩
end L2

/-! part Ext14 -/
set_option Elab.async false
set_option linter.all false
set_option maxRecDepth 100000
set_option maxHeartbeats 4000000
/-! MY OWN LAYER 14: pairs to new things; two promises of one def -/
namespace L2
open PySem PySem.Spec PyProof.Rows
section
variable {X : Cx} {sc : Scope} {N' : List Str} {elt : Expr} {σ' : St} {Q : VK} {H : Hp}
theorem compF_zip {K : PySem.W.Frag} {l1 l2 : Addr} {xs ys : List V} (T : V × V → HO → Prop) (h1 : SqL K H l1 xs) (h2 : SqL K H l2 ys) (hz : xs.length ≤ 1000)
    (hs : ∀ (i : Nat) x y H1, xs[i]? = some x → ys[i]? = some y → Same H H1 → WEc X sc N' elt ((σ'.set 0 (some x)).set 1 (some y)) H1 fun v H3 => Same H1 H3 ∧ ∃ a o, v = .ref a ∧ H1 a = none ∧ H3 a = some o ∧ T (x, y) o)
    (hd : ∀ D H' as, H D = none → Same H H' → H' D = some (.lst (as.map V.ref)) → Made T H H' D (xs.zip ys) as → Q (.ref D) H') (D : Addr) (hD : H D = none) : CompW2 (Itz K l1 l2) (WTc X sc N' []) (WEc X sc N' elt) σ' Q D H := by
  refine compW_zip (xs := xs) (ys := ys) (fun i zs H' => i ≤ min xs.length ys.length ∧ Same H H' ∧ ∃ as : List Addr, zs = as.map V.ref ∧ Made T H H' D ((xs.zip ys).take i) as) ⟨Nat.zero_le _, same_upd hD _, [], rfl, by simp; exact Made.nil⟩ (fun i zs H' _ q _ => ⟨q.2.1.seq h1, q.2.1.seq h2⟩) (fun i x y zs t H1 hx hy q hD1 ht => ?_) (WTc.mono _) (WEc.mono _) (fun zs H' q hD' => ?_)
  · obtain ⟨hi, hS, as, rfl, hM⟩ := q
    have hx' : i < xs.length := (List.getElem?_eq_some_iff.mp hx).1
    have hy' : i < ys.length := (List.getElem?_eq_some_iff.mp hy).1
    have et : (xs.zip ys).take (i + 1) = (xs.zip ys).take i ++ [(x, y)] := by
      rw [List.take_add_one]
      have : (xs.zip ys)[i]? = some (x, y) := List.getElem?_zip_eq_some.mpr ⟨hx, hy⟩
      rw [this]; rfl
    have st : Same H1 (upd H1 t (.tup [x, y])) := same_upd ht _
    have hM2 := hM.keep (H'' := upd H1 t (.tup [x, y])) fun b o _ h => st _ _ h
    change WEc X sc N' elt ((σ'.set 0 (some x)).set 1 (some y)) (upd H1 t (.tup [x, y])) _
    refine WEc.mono _ _ _ _ _ (fun v H3 ⟨s3, a, o, ev, n2, e3, tt⟩ => ?_) (hs i x y _ hx hy (hS.trans st))
    subst ev
    refine ⟨s3 _ _ (st _ _ hD1), ?_, by omega, fun b o e => by rw [upd_ne (ne_of_none e hD)]; exact s3 _ _ (st _ _ (hS _ _ e)), as ++ [a], by rw [List.map_append]; rfl, ?_⟩
    · have hlen := Prd.len hM.pr
      refine small1000 ?_
      rw [List.length_map, ← hlen, List.length_take, List.length_zip]
      omega
    · rw [et]
      exact hM2.add (st _ _ hD1) s3 (hS.trans st) n2 e3 tt hD
  · obtain ⟨_, hS, as, rfl, hM⟩ := q
    rw [List.take_of_length_le (by rw [List.length_zip]; exact Nat.le_refl _)] at hM
    exact hd D H' as hD hS hD' hM
end
section
variable {P : Program} {w : World} {K : PySem.W.Frag} {mg : Str → Option Value} {base : Heap} {CX : CXT}
theorem Fd.or {x : Str} {ps : List Str} {k : Nat} {sp sp' : Sp} (F : Fd P w K mg base CX x ps k sp) (G : Fd P w K mg base CX x ps k sp') : Fd P w K mg base CX x ps k (fun vs H Q E => sp vs H Q E ∨ sp' vs H Q E) := by
  obtain ⟨f, fd, a, b, c, d, oc, od, osl, l⟩ := F.ex
  obtain ⟨f', fd', a', b', c', d', oc', od', osl', l'⟩ := G.ex
  rw [a] at a'; cases a'
  rw [l] at l'; cases l'
  refine ⟨f, fd, a, b, c, ?_, oc, od, osl, l⟩
  exact ⟨fun vs H Q E q => q.elim (d.len vs H Q E) (d'.len vs H Q E), fun A outer s H args us vs Q E hr he hb hv hs => hs.elim (d.run A outer s H args us vs Q E hr he hb hv) (d'.run A outer s H args us vs Q E hr he hb hv)⟩
end
end L2

/-! part Ext15 -/
set_option Elab.async false
set_option linter.all false
set_option maxRecDepth 100000
set_option maxHeartbeats 4000000
/-! MY OWN LAYER 15: what is a list or a tuple -/
namespace L2
open PySem PySem.Spec PyProof.Rows
section
variable {ti : TT} {te : TE} {σ' : St} {Q : VK} {D : Addr} {H : Hp}
end
section
variable {X : Cx} {sc : Scope} {N' : List Str} {elt : Expr} {ifs : List Expr} {σ' : St} {Q : VK} {H : Hp}
end
/-- a list or a tuple, tracked -/
def LT (H : Hp) (a : Addr) (xs : List V) : Prop := H a = some (.lst xs) ∨ H a = some (.tup xs)
theorem LT.same {H H' : Hp} {a : Addr} {xs : List V} (h : LT H a xs) (s : Same H H') : LT H' a xs := h.elim (fun z => .inl (s _ _ z)) fun z => .inr (s _ _ z)
theorem LT.sq {K : PySem.W.Frag} {H : Hp} {a : Addr} {xs : List V} (h : LT H a xs) : SqL K H a xs ∨ SqT K H a xs := h.elim (fun z => .inl (SqL.of z)) fun z => .inr (SqT.of z)
section
variable {X : Cx} {σ : St} {H : Hp} {a b c e : Expr} {p pos : Pos} {nx bk ct : NX} {rt : VK} {Q : VK}
end
end L2

/-! part Ext16 -/
set_option Elab.async false
set_option linter.all false
set_option maxRecDepth 100000
set_option maxHeartbeats 4000000
/-! MY OWN LAYER 16: rows of ints, made or taken; l[::-1]; tuple(l); lists of rows compared -/
namespace L2
open PySem PySem.Spec PyProof.Rows
section
variable {X : Cx} {sc : Scope} {N' : List Str} {elt : Expr} {σ' : St} {Q : VK} {H : Hp}
end
section
variable {X : Cx} {σ : St} {H : Hp} {a b c e : Expr} {p pos : Pos} {Q : VK}
end
/-! ### lists of rows of ints, compared -/
abbrev rowD (r : List Int) : PyData := .list (r.map PyData.int)
abbrev rowsD (S : List (List Int)) : PyData := .list (S.map rowD)
theorem eqv_rowsAll : ∀ S T : List (List Int), PyData.eqvAll (S.map rowD) (T.map rowD) = decide (S = T)
  | [], [] => by simp [PyData.eqvAll]
  | [], _ :: _ => by simp [PyData.eqvAll]
  | _ :: _, [] => by simp [PyData.eqvAll]
  | s :: S, t :: T => by
    rw [List.map_cons, List.map_cons, PyData.eqvAll, eqv_intsL, eqv_rowsAll S T]
    by_cases h : s = t
    · subst h; simp
    · simp [h]
theorem eqv_rows (S T : List (List Int)) : PyData.eqv (rowsD S) (rowsD T) = decide (S = T) := by rw [PyData.eqv]; exact eqv_rowsAll S T
theorem lay_rowsAll : ∀ S : List (List Int), PyData.canLayAll0 (S.map rowD) = true
  | [] => by simp [PyData.canLayAll0]
  | s :: S => by rw [List.map_cons, PyData.canLayAll0, lay_intsL, lay_rowsAll S]; rfl
theorem lay_rows (S : List (List Int)) : (rowsD S).canLay0 = true := by rw [PyData.canLay0]; exact lay_rowsAll S
theorem deep_rowsAll : ∀ S : List (List Int), PyData.depthAll (S.map rowD) ≤ 1
  | [] => by simp [PyData.depthAll]
  | s :: S => by
    have h2 := deep_rowsAll S
    rw [List.map_cons, PyData.depthAll, deep_intsL]
    exact Nat.max_le.mpr ⟨Nat.le_refl _, h2⟩
theorem deep_rows (S : List (List Int)) : (rowsD S).depth ≤ 2 := by
  have := deep_rowsAll S
  rw [PyData.depth]
  omega
theorem dvs_rows {K : PySem.W.Frag} {H : Hp} {S : List (List Int)} {as : List Addr} (h : Paired (fun (ns : List Int) a => H a = some (.lst (ns.map V.int))) S as) : Dvs K H (as.map V.ref) (S.map rowD) := by
  induction h with
  | nil => exact .nil
  | cons x t ih => exact .cons (Dv.ints (SqL.of x)) ih
end L2

/-! part Ext17 -/
set_option Elab.async false
set_option linter.all false
set_option maxRecDepth 100000
set_option maxHeartbeats 4000000
/-! MY OWN LAYER 17: a comprehension whose variable is read by another one within it -/
namespace L2
open PySem PySem.Spec PyProof.Rows
section
variable {X : Cx} {pins : List (Addr × Obj)} {σ σ' : St} {H : Hp} {s : Shared} {elt iter : Expr} {ifs : List Expr} {x : Str} {px pos : Pos} {sc : Scope} {N' : List Str} {cl : List (Str × Addr)} {it : Addr} {fp : List Addr} {tn : Nat → Heap → Prop} {J : It}
/-- as Caps, the block's variable its one cell -/
structure CapsK (X : Cx) (sc : Scope) (N' : List Str) (σ σ' : St) (x : Str) : Prop where
  kind : sc.kind = .function
  one : ∃ pre post, sc.names = pre ++ (x, NameKind.cell) :: post ∧ (∀ y ∈ pre, y.2 ≠ .cell) ∧ ∀ y ∈ post, y.2 ≠ .cell
  here : ∀ y ∈ sc.names, y.2 = .free → X.env.kindOf y.1 = some .cell ∨ X.env.kindOf y.1 = some .free
  names : ∀ y ∈ sc.names, y.2 = .local → sc.names.lookup y.1 = some .local
  var : sc.names.lookup x = some .cell
  nd : N'.Nodup
  n0 : N'[0]? = some x
  s0 : σ'[0]? = some none
  len : σ'.length = N'.length
  cap : ∀ (i : Nat) (y : Str) (v : V), N'[i]? = some y → σ'[i]? = some (some v) → sc.names.lookup y = some .free ∧ ∃ j : Nat, X.N[j]? = some y ∧ σ[j]? = some (some v)
theorem CapsK.only (cp : CapsK X sc N' σ σ' x) {y : Str} (h : (y, NameKind.cell) ∈ sc.names) : y = x := by
  obtain ⟨pre, post, e, h1, h2⟩ := cp.one
  rw [e] at h
  rcases List.mem_append.mp h with h | h
  · exact absurd rfl (h1 _ h)
  · rcases List.mem_cons.mp h with h | h
    · exact congrArg Prod.fst h
    · exact absurd rfl (h2 _ h)
end
/-- what must be seen of the text; np: how many names stand ahead of the cell -/
def CapsKP (ON : List Str) (osc sc : Scope) (x : Str) (js : List Nat) (np : Nat) : Prop :=
  sc.kind = .function ∧ (sc.names[np]? = some (x, NameKind.cell) ∧ (∀ y ∈ sc.names.take np, y.2 ≠ .cell) ∧ ∀ y ∈ sc.names.drop (np + 1), y.2 ≠ .cell) ∧ (∀ y ∈ sc.names, y.2 = .free → (osc.names.lookup y.1 = some .cell ∨ osc.names.lookup y.1 = some .free)) ∧ (∀ y ∈ sc.names, y.2 = .local → sc.names.lookup y.1 = some .local) ∧
    sc.names.lookup x = some .cell ∧ (x :: js.map fun j => ON.getD j "").Nodup ∧ ∀ j ∈ js, j < ON.length ∧ sc.names.lookup (ON.getD j "") = some .free
instance (ON : List Str) (osc sc : Scope) (x : Str) (js : List Nat) (np : Nat) : Decidable (CapsKP ON osc sc x js np) := by unfold CapsKP; infer_instance
section
variable {X : Cx} {σ : St} {H : Hp} {elt iter : Expr} {ifs : List Expr} {x : Str} {px pos : Pos} {sc osc : Scope} {ON : List Str} {Q : VK}
end
end L2

/-! part M10 -/
set_option Elab.async false
set_option linter.all false
set_option maxRecDepth 100000
set_option maxHeartbeats 4000000
/-! sorting by keys that are all unlike: what the tree of questions ends with -/
namespace L2
open PySem PySem.W PyProof.Rows
section
variable {α β : Type} {N : Nat} {lt : Nat → Nat → Bool}
def Tw (N : Nat) (lt : Nat → Nat → Bool) : KasT α → (α → Prop) → Prop
  | .ret a, Q => Q a
  | .ask i j k, Q => i < N ∧ j < N ∧ Tw N lt (k (lt i j)) Q
theorem Tw.mono {Q Q' : α → Prop} (m : ∀ a, Q a → Q' a) : ∀ {t : KasT α}, Tw N lt t Q → Tw N lt t Q'
  | .ret a, h => m a h
  | .ask i j k, h => ⟨h.1, h.2.1, Tw.mono m h.2.2⟩
theorem Tw.bind {f : α → KasT β} {Q : β → Prop} : ∀ {t : KasT α}, Tw N lt t (fun a => Tw N lt (f a) Q) → Tw N lt (t.bind f) Q
  | .ret a, h => h
  | .ask i j k, h => ⟨h.1, h.2.1, Tw.bind h.2.2⟩
theorem Tw.yes {i j : Nat} {k : Bool → KasT α} {Q : α → Prop} (hi : i < N) (hj : j < N) (hc : lt i j = true) (h : Tw N lt (k true) Q) : Tw N lt (.ask i j k) Q := ⟨hi, hj, by rw [hc]; exact h⟩
theorem Tw.no {i j : Nat} {k : Bool → KasT α} {Q : α → Prop} (hi : i < N) (hj : j < N) (hc : lt i j = false) (h : Tw N lt (k false) Q) : Tw N lt (.ask i j k) Q := ⟨hi, hj, by rw [hc]; exact h⟩
theorem Tw.wp {cmp : Nat → Nat → (Bool → Shared → Prop) → Shared → Prop} {s : Shared} {Q : α → Shared → Prop} (hc : ∀ i j, i < N → j < N → ∀ C : Bool → Shared → Prop, C (lt i j) s → cmp i j C s) : ∀ {t : KasT α}, Tw N lt t (fun a => Q a s) → t.kasWp cmp Q s
  | .ret a, h => h
  | .ask i j k, h => hc i j h.1 h.2.1 _ (Tw.wp hc h.2.2)
end
section
variable {N : Nat} {ky : Nat → Int} {p : Array Nat}
abbrev ltK (ky : Nat → Int) : Nat → Nat → Bool := fun i j => decide (ky i < ky j)
/-- the key at a place -/
abbrev kA (ky : Nat → Int) (p : Array Nat) (i : Nat) : Int := ky (p.getD i 0)
def Pm (N : Nat) (p : Array Nat) : Prop := p.toList.Perm (List.range N)
def Inj (N : Nat) (ky : Nat → Int) : Prop := ∀ i j, i < N → j < N → ky i = ky j → i = j
def UpTo (ky : Nat → Int) (p : Array Nat) (k : Nat) : Prop := ∀ i j, i < j → j < k → kA ky p i < kA ky p j
def DnTo (ky : Nat → Int) (p : Array Nat) (k : Nat) : Prop := ∀ i j, i < j → j < k → kA ky p j < kA ky p i
theorem Pm.size (h : Pm N p) : p.size = N := by have := h.length_eq; rw [List.length_range] at this; simpa using this
theorem Pm.lt (h : Pm N p) {i : Nat} (hi : i < N) : p.getD i 0 < N := by
  have hs := h.size
  have hm : p.getD i 0 ∈ p.toList := by
    rw [Array.getD, dif_pos (by omega)]
    exact Array.mem_toList_iff.mpr (Array.getElem_mem _)
  exact List.mem_range.mp (h.subset hm)
theorem Pm.ne (h : Pm N p) (hk : Inj N ky) {i j : Nat} (hi : i < N) (hj : j < N) (hij : i ≠ j) : kA ky p i ≠ kA ky p j := fun z => by
  have hs := h.size
  have e := hk _ _ (h.lt hi) (h.lt hj) z
  have nd : p.toList.Nodup := h.nodup_iff.mpr List.nodup_range
  have e1 : p.toList[i]? = some (p.getD i 0) := by
    rw [Array.getD, dif_pos (by omega)]
    simp [show i < p.size by omega]
  have e2 : p.toList[j]? = some (p.getD j 0) := by
    rw [Array.getD, dif_pos (by omega)]
    simp [show j < p.size by omega]
  rw [e, ← e2] at e1
  obtain ⟨h1, _⟩ := List.getElem?_eq_some_iff.mp e2
  exact hij ((List.getElem?_inj (by simpa using (by omega : i < p.size)) nd).mp e1)
theorem Pm.start (N : Nat) : Pm N (List.toArray (List.range N)) := List.Perm.refl _
theorem Pm.of (h : Pm N p) {p' : Array Nat} (hp : p'.Perm p) : Pm N p' := (Array.perm_iff_toList_perm.mp hp).trans h
theorem rev_get {n : Nat} (hn : n ≤ p.size) (k : Nat) : (kas_rev p 0 n).getD k 0 = if k < n then p.getD (n - 1 - k) 0 else p.getD k 0 := by
  rw [Array.getD_eq_getD_getElem?, Array.getD_eq_getD_getElem?, Array.getD_eq_getD_getElem?]
  show (mirror p 0 n ((n - 0) / 2))[k]?.getD 0 = _
  rw [getElem?_mirror_all hn]
  by_cases h : k < n
  · rw [if_pos ⟨Nat.zero_le _, h⟩, if_pos h, Nat.zero_add]
  · rw [if_neg (fun z => h z.2), if_neg h]
theorem bub_get {k l : Nat} (hk : k < p.size) (hl : l ≤ k) (j : Nat) : (bubble p k (k - l)).getD j 0 = if j = l then p.getD k 0 else if l < j ∧ j ≤ k then p.getD (j - 1) 0 else p.getD j 0 := by
  rw [Array.getD_eq_getD_getElem?, Array.getD_eq_getD_getElem?, Array.getD_eq_getD_getElem?, Array.getD_eq_getD_getElem?, getElem?_bubble hk (k - l) (by omega), show k - (k - l) = l by omega]
  split
  · rfl
  · split <;> rfl
theorem tw_asc (hp : Pm N p) (hk : Inj N ky) : ∀ (f n : Nat), 1 ≤ n → n + f ≤ N → UpTo ky p n → Tw N (ltK ky) (kas_asc p f n) fun m => n ≤ m ∧ m ≤ n + f ∧ UpTo ky p m ∧ (m < n + f → kA ky p m < kA ky p (m - 1))
  | 0, n, _, _, hu => ⟨Nat.le_refl _, Nat.le_refl _, hu, fun h => absurd h (by omega)⟩
  | f + 1, n, h1, hn, hu => by
    by_cases hc : kA ky p n < kA ky p (n - 1)
    · refine Tw.yes (hp.lt (by omega)) (hp.lt (by omega)) (decide_eq_true hc) ?_
      rw [if_pos rfl]
      exact ⟨Nat.le_refl _, by omega, hu, fun _ => hc⟩
    · refine Tw.no (hp.lt (by omega)) (hp.lt (by omega)) (decide_eq_false hc) ?_
      rw [if_neg (by decide)]
      have hne := hp.ne hk (i := n) (j := n - 1) (by omega) (by omega) (by omega)
      refine Tw.mono (fun m ⟨a, b, c, d⟩ => ⟨by omega, by omega, c, fun h => d (by omega)⟩) (tw_asc hp hk f (n + 1) (by omega) (by omega) fun i j hij hj => ?_)
      by_cases hj' : j < n
      · exact hu i j hij hj'
      · have : j = n := by omega
        subst this
        by_cases hi : i = j - 1
        · subst hi; omega
        · have := hu i (j - 1) (by omega) (by omega)
          omega
theorem tw_desc (hp : Pm N p) (hk : Inj N ky) : ∀ (f n : Nat), 1 ≤ n → n + f ≤ N → DnTo ky p n → Tw N (ltK ky) (kas_desc f p n 0) fun r => r.1 = p ∧ n ≤ r.2.1 ∧ r.2.1 ≤ n + f ∧ r.2.2 = 0 ∧ DnTo ky p r.2.1
  | 0, n, _, _, hu => ⟨rfl, Nat.le_refl _, Nat.le_refl _, rfl, hu⟩
  | f + 1, n, h1, hn, hu => by
    have hne := hp.ne hk (i := n) (j := n - 1) (by omega) (by omega) (by omega)
    by_cases hc : kA ky p n < kA ky p (n - 1)
    · refine Tw.yes (hp.lt (by omega)) (hp.lt (by omega)) (decide_eq_true hc) ?_
      rw [if_pos rfl, if_neg (Nat.lt_irrefl 0)]
      refine Tw.mono (fun r ⟨a, b, c, d, e⟩ => ⟨a, by omega, by omega, d, e⟩) (tw_desc hp hk f (n + 1) (by omega) (by omega) fun i j hij hj => ?_)
      by_cases hj' : j < n
      · exact hu i j hij hj'
      · have : j = n := by omega
        subst this
        by_cases hi : i = j - 1
        · subst hi; exact hc
        · have := hu i (j - 1) (by omega) (by omega)
          omega
    · refine Tw.no (hp.lt (by omega)) (hp.lt (by omega)) (decide_eq_false hc) ?_
      rw [if_neg (by decide)]
      refine Tw.yes (hp.lt (by omega)) (hp.lt (by omega)) (decide_eq_true (show kA ky p (n - 1) < kA ky p n by omega)) ?_
      rw [if_pos rfl]
      exact ⟨rfl, Nat.le_refl _, by show n ≤ n + (f + 1); omega, rfl, hu⟩
theorem tw_tail (hp : Pm N p) (hk : Inj N ky) {n : Nat} (h1 : 1 ≤ n) (hn : n ≤ N) (hd : DnTo ky p n) : Tw N (ltK ky) (kas_tail3 n N p) fun r => Pm N r.2 ∧ 1 ≤ r.1 ∧ r.1 ≤ N ∧ UpTo ky r.2 r.1 := by
  have hs := hp.size
  have hp' : Pm N (kas_rev p 0 n) := hp.of (mirror_perm _ _ _ _)
  refine Tw.bind (Tw.mono (fun m ⟨a, b, c, _⟩ => ⟨hp', by omega, by omega, c⟩) (tw_asc hp' hk (N - n) n h1 (by omega) fun i j hij hj => ?_))
  show ky ((kas_rev p 0 n).getD i 0) < ky ((kas_rev p 0 n).getD j 0)
  rw [rev_get (by omega), rev_get (by omega), if_pos (by omega), if_pos hj]
  exact hd (n - 1 - j) (n - 1 - i) (by omega) (by omega)
theorem tw_count (hp : Pm N p) (hk : Inj N ky) (h2 : 2 ≤ N) : Tw N (ltK ky) (kas_count N p) fun r => Pm N r.2 ∧ 1 ≤ r.1 ∧ r.1 ≤ N ∧ UpTo ky r.2 r.1 := by
  refine Tw.bind (Tw.mono (fun n ⟨a, b, c, d⟩ => ?_) (tw_asc hp hk (N - 1) 1 (Nat.le_refl _) (by omega) fun i j hij hj => absurd hij (by omega)))
  by_cases hn : n = N
  · rw [if_pos (by simpa using hn)]
    exact ⟨hp, a, by show n ≤ N; omega, c⟩
  · rw [if_neg (by simpa using hn)]
    by_cases h1 : n > 1
    · rw [if_pos h1]
      refine Tw.yes (hp.lt (by omega)) (hp.lt (by omega)) (decide_eq_true (c 0 (n - 1) (by omega) (by omega))) ?_
      rw [if_pos rfl]
      exact ⟨hp, a, by show n ≤ N; omega, c⟩
    · rw [if_neg h1]
      have e : n = 1 := by omega
      subst e
      have d' := d (by omega)
      refine Tw.bind (Tw.mono (fun r ⟨x1, x2, x3, x4, x5⟩ => ?_) (tw_desc hp hk (N - 2) 2 (by omega) (by omega) fun i j hij hj => ?_))
      · have : i = 0 ∧ j = 1 := by omega
        obtain ⟨rfl, rfl⟩ := this
        exact d'
      · rw [if_neg (by omega), x1]
        exact tw_tail hp hk (by omega) (by omega) x5
theorem tw_place (hp : Pm N p) (hk : Inj N ky) {k : Nat} (hkN : k < N) (hu : UpTo ky p k) : ∀ (f l r : Nat), l ≤ r → r ≤ k → r - l ≤ f → (∀ i, i < l → kA ky p i < kA ky p k) → (∀ i, r ≤ i → i < k → kA ky p k < kA ky p i) →
    Tw N (ltK ky) (kas_place p k f l r) fun m => m ≤ k ∧ (∀ i, i < m → kA ky p i < kA ky p k) ∧ ∀ i, m ≤ i → i < k → kA ky p k < kA ky p i
  | 0, l, r, h1, h2, h3, h4, h5 => by
    have : l = r := by omega
    subst this
    exact ⟨h2, h4, h5⟩
  | f + 1, l, r, h1, h2, h3, h4, h5 => by
    unfold kas_place
    by_cases hlr : l ≥ r
    · have : l = r := by omega
      subst this
      rw [if_pos hlr]
      exact ⟨h2, h4, h5⟩
    · rw [if_neg hlr]
      have hne := hp.ne hk (i := k) (j := (l + r) / 2) hkN (by omega) (by omega)
      by_cases hc : kA ky p k < kA ky p ((l + r) / 2)
      · refine Tw.yes (hp.lt hkN) (hp.lt (by omega)) (decide_eq_true hc) ?_
        rw [if_pos rfl]
        refine tw_place hp hk hkN hu f l ((l + r) / 2) (by omega) (by omega) (by omega) h4 fun i hi hik => ?_
        by_cases e : i = (l + r) / 2
        · subst e; exact hc
        · have := hu ((l + r) / 2) i (by omega) hik
          omega
      · refine Tw.no (hp.lt hkN) (hp.lt (by omega)) (decide_eq_false hc) ?_
        rw [if_neg (by decide)]
        refine tw_place hp hk hkN hu f ((l + r) / 2 + 1) r (by omega) h2 (by omega) (fun i hi => ?_) h5
        by_cases e : i = (l + r) / 2
        · subst e; omega
        · have := hu i ((l + r) / 2) (by omega) (by omega)
          omega
theorem tw_bin (hk : Inj N ky) : ∀ (f : Nat) (p : Array Nat) (k : Nat), Pm N p → k + f = N → UpTo ky p k → Tw N (ltK ky) (kas_bin f p k) fun p' => Pm N p' ∧ UpTo ky p' N
  | 0, p, k, hp, h, hu => ⟨hp, by rw [← h]; exact hu⟩
  | f + 1, p, k, hp, h, hu => by
    have hs := hp.size
    refine Tw.bind (Tw.mono (fun l ⟨a, b, c⟩ => ?_) (tw_place hp hk (by omega) hu k 0 k (Nat.zero_le _) (Nat.le_refl _) (by omega) (fun i hi => absurd hi (by omega)) fun i h1 h2 => absurd h2 (by omega)))
    refine tw_bin hk f _ (k + 1) (hp.of (bubble_perm _ _ _)) (by omega) fun i j hij hj => ?_
    show ky ((bubble p k (k - l)).getD i 0) < ky ((bubble p k (k - l)).getD j 0)
    rw [bub_get (by omega) a, bub_get (by omega) a]
    by_cases e1 : i = l
    · rw [if_pos e1, if_neg (by omega), if_pos (by omega)]
      exact c (j - 1) (by omega) (by omega)
    · rw [if_neg e1]
      by_cases e2 : l < i ∧ i ≤ k
      · rw [if_pos e2, if_neg (by omega), if_pos (by omega)]
        exact hu (i - 1) (j - 1) (by omega) (by omega)
      · rw [if_neg e2]
        by_cases e3 : j = l
        · rw [if_pos e3]
          exact b i (by omega)
        · rw [if_neg e3]
          by_cases e4 : l < j ∧ j ≤ k
          · rw [if_pos e4]
            by_cases e5 : i = j - 1
            · omega
            · exact hu i (j - 1) (by omega) (by omega)
          · rw [if_neg e4]
            exact hu i j hij (by omega)
theorem tw_sort (hk : Inj N ky) (h2 : 2 ≤ N) : Tw N (ltK ky) (kas_sort N) fun p => Pm N p ∧ UpTo ky p N := by
  refine Tw.bind (Tw.mono (fun r ⟨a, b, c, d⟩ => ?_) (tw_count (Pm.start N) hk h2))
  by_cases h : r.1 < N
  · rw [if_pos h, show max r.1 1 = r.1 by omega]
    exact tw_bin hk _ _ _ a (by omega) d
  · rw [if_neg h]
    exact ⟨a, by rw [show N = r.1 by omega]; exact d⟩
end
end L2

/-! part Ext18 -/
set_option Elab.async false
set_option linter.all false
set_option maxRecDepth 100000
set_option maxHeartbeats 4000000
/-! MY OWN LAYER 18: sorted, of a list of lists of ints whose first ones are all unlike -/
namespace L2
open PySem PySem.Spec PyProof.Rows PySem.W
theorem lexC_self (f : Int → Int → Bool) (z : Bool) : ∀ ns : List Int, lexC f z ns ns = z
  | [] => rfl
  | x :: xs => by rw [lexC, if_pos rfl]; exact lexC_self f z xs
section
variable {prog : Program} {w : World} {A : Around} {E : Value → Shared → Prop} {s : Shared}
abbrev lsO (its : List Value) (n : Nat) : Obj := { cls := .type "list", data := .seq its.toArray n }
theorem keyLt_list {a b : Addr} {its js : List Value} {n k : Nat} {ns ms : List Int} {Q : Bool → Shared → Prop} (hu : A.units < cLine) (ha : s.heap.get? a = some (lsO its n)) (hb : s.heap.get? b = some (lsO js k)) (hi : IntsAre its ns) (hj : IntsAre js ms)
    (h : Q (lexC (fun a b => decide (a < b)) (decide (ns.length < ms.length)) ns ms) s) : wpAny (model prog w) A (keyLt' oneType' (.ref a) (.ref b)) Q E s := by
  rw [keyLt'_oneType, oneLt'_eq, if_pos rfl]
  refine wpAny_bind (wpAny_cRoomFor hu (wpAny_bind (wpAny_callSpecialIfBound?_slot ⟨_, ha, rfl⟩ F.slot_list_lt (call_meets F.slot_list_lt ⟨_, ha, rfl⟩ F.entry_list_lt (F.args_list_lt_2 _ _) (list_ltAt a b its js n k ns ms hi hj) ⟨ha, hb, ?_⟩))))
  exact wpAny_truthy_bool h
/-- each a list of ints, the first one its key -/
def Lsts (h : Heap) (ky : Nat → Int) (vs : List Value) : Prop := ∀ i, i < vs.length → ∃ b its m ns, vs[i]? = some (.ref b) ∧ h.get? b = some (lsO its m) ∧ IntsAre its ns ∧ ns.head? = some (ky i)
theorem Lsts.grow {h h' : Heap} {ky : Nat → Int} {vs : List Value} (l : Lsts h ky vs) (k : ∀ b o, h.get? b = some o → h'.get? b = some o) : Lsts h' ky vs := fun i hi => let ⟨b, its, m, ns, x, y, z⟩ := l i hi; ⟨b, its, m, ns, x, k _ _ y, z⟩
theorem lsts_ask {ky : Nat → Int} {vs : List Value} (hu : A.units < cLine) (hk : Inj vs.length ky) (l : Lsts s.heap ky vs) (i j : Nat) (hi : i < vs.length) (hj : j < vs.length) (C : Bool → Shared → Prop) (h : C (ltK ky i j) s) : kas_cmp prog w A oneType' (pairsOf vs) i j C s := by
  rw [← kas_ask_eq]
  show wpAny (model prog w) A (keyLt' oneType' (vs.getD i Value.none) (vs.getD j Value.none)) C (fun _ _ => False) s
  obtain ⟨b, its, m, ns, e1, e2, e3, e4⟩ := l i hi
  obtain ⟨c, jts, k, ms, d1, d2, d3, d4⟩ := l j hj
  rw [show vs.getD i Value.none = .ref b by rw [List.getD_eq_getElem?_getD, e1]; rfl, show vs.getD j Value.none = .ref c by rw [List.getD_eq_getElem?_getD, d1]; rfl]
  refine keyLt_list hu e2 d2 e3 d3 ?_
  have e : lexC (fun a b => decide (a < b)) (decide (ns.length < ms.length)) ns ms = ltK ky i j := by
    by_cases hij : i = j
    · subst hij
      rw [e1] at d1
      have : b = c := by injection d1 with d1; injection d1
      subst this
      rw [e2] at d2
      have ei : its = jts := by
        have d5 := congrArg Obj.data (Option.some.inj d2)
        injection d5 with d5
        simpa using d5
      subst ei
      have en : ns = ms := by rw [← e3.nums, ← d3.nums]
      subst en
      rw [lexC_self, decide_eq_false (Nat.lt_irrefl _)]
      exact (decide_eq_false (Int.lt_irrefl _)).symm
    · cases ns with
      | nil => cases e4
      | cons x ns =>
        cases ms with
        | nil => cases d4
        | cons y ms =>
          have ex : x = ky i := by simpa using e4
          have ey : y = ky j := by simpa using d4
          rw [lexC, if_neg (fun z => hij (hk i j hi hj (by rw [← ex, ← ey, z]))), ex, ey]
  rw [e]; exact h
theorem looks_lsts {ky : Nat → Int} {vs : List Value} {M : Model} (l : Lsts s.heap ky vs) : ∀ v ∈ vs, Looks M s.heap (typeOf v) (.type "list") := fun v hv => by
  obtain ⟨i, hi⟩ := List.getElem?_of_mem hv
  obtain ⟨b, its, m, ns, e1, e2, _, _⟩ := l i (List.getElem?_eq_some_iff.mp hi).1
  rw [hi] at e1
  cases e1
  exact (Looks.ld e2).andThen .now
theorem picks_snd {vs : List Value} {st : SortSt} {p : Array Nat} (e : arrOf st = p.map (kas_item (pairsOf vs))) : (arrOf st).map (·.2) = List.toArray (p.toList.map fun i => vs.getD i Value.none) := by
  apply Array.toList_inj.mp
  rw [e, Array.map_map, Array.toList_map]
  refine List.map_congr_left fun i _ => ?_
  show (kas_item (pairsOf vs) i).2 = _
  rw [kas_item_eq]
theorem picks_all (vs : List Value) : (List.range vs.length).map (fun i => vs.getD i Value.none) = vs := by
  apply List.ext_getElem
  · simp
  · intro i h1 h2
    simp at h1
    simp [h1]
theorem sort_lists {a : Addr} {vs : List Value} {n : Nat} {ky : Nat → Int} {R : PySem.Fin → Shared → Prop} (hu : A.units < cLine) (ho : s.heap.get? a = some (seqObj "list" vs.toArray n)) (few : vs.length < 64) (hk : Inj vs.length ky) (l : ∀ h', (∀ b o, b ≠ a → s.heap.get? b = some o → h'.get? b = some o) → Lsts h' ky vs)
    (h : ∀ p : Array Nat, Pm vs.length p → UpTo ky p vs.length → R (.done (.ret .none)) { s with heap := sortedHeap s.heap a vs (List.toArray (p.toList.map fun i => vs.getD i Value.none)) }) : wpAny (model prog w) A (Builtin.«list.sort» ⟨[.ref a], []⟩) R E s := by
  rw [list_sort_plain]
  have below : a < s.heap.objs.size := Heap.lt_size ho
  obtain ⟨m, em⟩ : ∃ m, (s.heap.update a (Obj.mapSeq fun _ => #[])).get? a = some (seqObj "list" #[] m) := ⟨_, get?_update_seq ho (fun _ => #[])⟩
  refine wpAny_bind (listItems_at ho rfl (wpAny_bind (listUpdate_at ho rfl (wpAny_bind (seqEpoch_at em rfl (wpAny_bind (wpAny_newTuple (wpAny_bind (wpAny_newList (wpAny_holding ?_)))))))))) 
  have keep : ∀ b o, b < s.heap.objs.size → (s.heap.update a (Obj.mapSeq fun _ => #[])).get? b = some o → (((s.heap.update a (Obj.mapSeq fun _ => #[])).push (seqObj "tuple" vs.toArray 0)).push (seqObj "list" #[] 0)).get? b = some o := fun b o hb e => by
    rw [Heap.get?_push_ne _ _ _ (by rw [size_push', Heap.size_update]; exact Nat.ne_of_lt (Nat.lt_succ_of_lt hb)), Heap.get?_push_ne _ _ _ (by rw [Heap.size_update]; exact Nat.ne_of_lt hb)]; exact e
  have e6 := keep a _ below em
  have l6 : Lsts (((s.heap.update a (Obj.mapSeq fun _ => #[])).push (seqObj "tuple" vs.toArray 0)).push (seqObj "list" #[] 0)) ky vs := l _ fun b o hb e => keep b o (Heap.lt_size e) (by rw [Heap.get?_update_ne _ _ _ _ hb]; exact e)
  show wpAny (model prog w) A _ R E { s with heap := (((s.heap.update a (Obj.mapSeq fun _ => #[])).push (seqObj "tuple" vs.toArray 0)).push (seqObj "list" #[] 0)) }
  dsimp only
  have sz : vs.toArray.size = vs.length := by simp
  by_cases two : vs.toArray.size < 2
  · rw [if_pos two, if_pos two]
    refine wpAny_bind (wpAny_pure ?_)
    rw [StateT.run_pure]
    refine wpAny_bind (wpAny_pure ?_)
    dsimp only
    refine wpAny_bind (seqEpoch_at e6 rfl (wpAny_bind (listUpdate_at e6 rfl ?_ (hsz2 := by rw [Array.size_map]; show (pairsOf vs).size ≤ _; rw [pairsOf_size, sizeLine_eq]; omega))))
    simp only [bne_self_eq_false, Bool.false_eq_true, if_false]
    have := h _ (Pm.start vs.length) fun i j hij hj => absurd hij (by omega)
    have e : (List.toArray ((List.range vs.length).toArray.toList.map fun i => vs.getD i Value.none)) = (arrOf (SortSt.mk' general' (vs.toArray.zip vs.toArray) #[] 7 none)).map (·.2) := by
      show List.toArray ((List.range vs.length).map fun i => vs.getD i Value.none) = (pairsOf vs).map (·.2)
      rw [picks_all]
      apply Array.toList_inj.mp
      rw [Array.toList_map, pairsOf_toList, List.map_snd_zip (Nat.le_refl _)]
    rw [e] at this
    exact wpAny_pure this
  · rw [if_neg two, if_neg two]
    refine wpAny_bind (kas_kind (T := .type "list") (by omega) (looks_lsts l6) (by rfl) (by rfl) ?_)
    have start : SortSt.mk' oneType' (vs.toArray.zip vs.toArray) #[] 7 none = kas_st oneType' (pairsOf vs) (List.toArray (List.range vs.length)) := by
      have e := kas_range (pairsOf vs)
      rw [pairsOf_size] at e
      show SortSt.mk' oneType' (pairsOf vs) #[] 7 none = SortSt.mk' oneType' ((List.toArray (List.range vs.length)).map (kas_item (pairsOf vs))) #[] 7 none
      rw [e]
    rw [start]
    have run := kas_runs (prog := prog) (w := w) (A := A) (E := E) (κ := oneType') (it := pairsOf vs) (n := vs.length) (s := { s with heap := (((s.heap.update a (Obj.mapSeq fun _ => #[])).push (seqObj "tuple" vs.toArray 0)).push (seqObj "list" #[] 0)) })
      (G := fun p s' => (Pm vs.length p ∧ UpTo ky p vs.length) ∧ s' = { s with heap := (((s.heap.update a (Obj.mapSeq fun _ => #[])).push (seqObj "tuple" vs.toArray 0)).push (seqObj "list" #[] 0)) })
      (Q := fun _ st' s' => (∃ p, Pm vs.length p ∧ UpTo ky p vs.length ∧ arrOf st' = p.map (kas_item (pairsOf vs)) ∧ failedOf st' = none) ∧ s' = { s with heap := (((s.heap.update a (Obj.mapSeq fun _ => #[])).push (seqObj "tuple" vs.toArray 0)).push (seqObj "list" #[] 0)) })
      (by omega) few (fun p st' s' _ a2 a3 ⟨⟨a4, a5⟩, a6⟩ => ⟨⟨p, a4, a5, a2, a3⟩, a6⟩) (Tw.wp (fun i j hi hj C hC => lsts_ask hu hk l6 i j hi hj C hC) (Tw.mono (fun p hp => ⟨hp, rfl⟩) (tw_sort hk (by omega))))
    refine wpAny_bind (wpAny_mono run ?_ fun _ _ e => e)
    rintro ⟨⟨⟩, st'⟩ s' ⟨⟨p, h1, h2, h3, h4⟩, rfl⟩
    dsimp only
    have en := picks_snd h3
    refine wpAny_bind (seqEpoch_at e6 rfl (wpAny_bind (listUpdate_at e6 rfl ?_ (hsz2 := by rw [en, List.size_toArray, List.length_map, Array.length_toList, h1.size, sizeLine_eq]; omega))))
    rw [h4]
    simp only [bne_self_eq_false, Bool.false_eq_true, if_false]
    rw [en]
    exact wpAny_pure (h p h1 h2)
theorem sorted_lists {l : Addr} {vs : List Value} {ky : Nat → Int} {Q : Value → Shared → Prop} (hu : A.units + 2 < cLine) (hl : s.heap.IsList l vs.toArray) (few : vs.length < 64) (hk : Inj vs.length ky) (L : Lsts s.heap ky vs)
    (h : ∀ p : Array Nat, Pm vs.length p → UpTo ky p vs.length → Q (.ref (s.heap.objs.size + 1)) { s with heap := sortedAll s.heap vs (List.toArray (p.toList.map fun i => vs.getD i Value.none)) }) : wpAny (model prog w) A (call (.builtin "sorted") [.ref l]) Q E s := by
  refine Calls.call_function_entry kind_sorted plain_sorted entry_sorted (args_sorted1 _) ?_
  unfold Builtin.«sorted»
  have sz : ((s.heap.push (seqObj "list" #[] 0)).update s.heap.objs.size (Obj.mapSeq (· ++ vs.toArray))).objs.size = s.heap.objs.size + 1 := by rw [Heap.size_update, size_push']
  have at1 : (((s.heap.push (seqObj "list" #[] 0)).update s.heap.objs.size (Obj.mapSeq (· ++ vs.toArray))).push (seqObj "list" vs.toArray 0)).get? (s.heap.objs.size + 1) = some (seqObj "list" vs.toArray 0) := by rw [← sz]; exact Heap.get?_push_size _ rfl
  have old : ∀ b o, s.heap.get? b = some o → b ≠ s.heap.objs.size + 1 ∧ (((s.heap.push (seqObj "list" #[] 0)).update s.heap.objs.size (Obj.mapSeq (· ++ vs.toArray))).push (seqObj "list" vs.toArray 0)).get? b = some o := fun b o e => by
    have hb : b < s.heap.objs.size := Heap.lt_size e
    have hb1 : b ≠ s.heap.objs.size := Nat.ne_of_lt hb
    have hb2 : b ≠ s.heap.objs.size + 1 := Nat.ne_of_lt (Nat.lt_succ_of_lt hb)
    refine ⟨hb2, ?_⟩
    rw [Heap.get?_push_ne _ _ _ (by rw [sz]; exact hb2), Heap.get?_update_ne _ _ _ _ hb1, Heap.get?_push_ne _ _ _ hb1]; exact e
  refine wpAny_bind (m := checkCount "sorted" 1 1 _) (wpAny_pure (wpAny_bind (collect_list hl (wpAny_bind (wpAny_newList ?_ (by rw [sizeLine_eq]; omega))) (by rw [sizeLine_eq]; omega))))
  show wpAny _ _ _ _ _ { s with heap := (((s.heap.push (seqObj "list" #[] 0)).update s.heap.objs.size (Obj.mapSeq (· ++ vs.toArray))).push (seqObj "list" vs.toArray 0)) }
  rw [sz]
  refine wpAny_bind (wpAny_holding (wpAny_call_entry slot_list_sort ⟨_, at1, rfl⟩ entry_list_sort (sort_lists (ky := ky) (show A.units + 1 + 1 < cLine by omega) at1 few hk (fun h' k => L.grow fun b o e => k b o (old b o e).1 (old b o e).2) fun p h1 h2 => ⟨_, rfl, wpAny_pure ⟨_, rfl, h p h1 h2⟩⟩) (args_list_sort _)))
end
end L2

/-! part Ext19 -/
set_option Elab.async false
set_option linter.all false
set_option maxRecDepth 100000
set_option maxHeartbeats 4000000
/-! MY OWN LAYER 19: dicts with ints as keys: {}, d[k], d[k] = v, sorted(d) -/
namespace L2
open PySem PySem.Spec
section
variable {X : Cx} {a b o i e value : Expr} {σ : St} {H : Hp} {Q : VK} {pos pos' p : Pos} {nx bk ct : NX} {rt : VK}
theorem we_dnew (q : ∀ p, H p = none → Q (.ref p) (upd H p (.dK []))) : WE X (.Dict [] [] pos) σ H Q := pe_dnewK.we q
theorem we_dget (hu : X.A.units + 1 < cLine) (q : WE X a σ H fun x H1 => WE X b σ H1 fun y H2 => ∃ (d : Addr) (kvs : List (Key × V)) (n : Int) (v : V), x = .ref d ∧ y = .int n ∧ H2 d = some (.dK kvs) ∧ valV kvs (Sum.inl n) = some v ∧ Q v H2) (hs : NoSl b := by exact fun _ _ => rfl) : WE X (.Subscript a b pos) σ H Q :=
  (pe_dget hu peW peW hs).we (WE.mono q fun x H1 k => WE.mono k fun y H2 ⟨d, kvs, n, v, e1, e2, e3, e4, e5⟩ => ⟨d, v, e1, by rw [e2, ← e4]; exact DGet.k (k := Sum.inl n) e3, e5⟩)
theorem ws_dput (hu : X.A.units + 1 < cLine) (q : WE X value σ H fun v H1 => WE X o σ H1 fun x H2 => WE X i σ H2 fun y H3 => ∃ (d : Addr) (kvs : List (Key × V)) (n : Int), x = .ref d ∧ y = .int n ∧ H3 d = some (.dK kvs) ∧ kvs.length < sizeLine ∧ nx σ (upd H3 d (.dK (putK kvs (Sum.inl n) v))))
    (hs : swapsWith value (some (.Subscript o i pos')) pos.line X.env = pure false := by rfl) : WS X (.Assign [.Subscript o i pos'] value pos) nx rt bk ct σ H :=
  (ps_dput hu peW peW peW hs).wd (WE.mono q fun v H1 k => WE.mono k fun x H2 k => WE.mono k fun y H3 ⟨d, kvs, n, e1, e2, e3, e4, e5⟩ => ⟨d, _, e1, by rw [e2]; exact DPut.k (k := Sum.inl n) e3 e4, e5⟩)
end
section
open PyProof.Rows PySem.W
variable {prog : Program} {w : World} {A : Around} {E : Value → Shared → Prop} {s : Shared} {d : Addr}
theorem collect_dict {ky : Type} [DecidableEq ky] {knd : PySem.KeyKind prog w ky} {kvs : List (ky × Value)} {ep : Nat} {R : List Value → Shared → Prop} (hh : A.handled = none) (lo : (d == sysModules) = false) (hat : s.heap.DictAt knd d kvs ep) (hn : kvs.length ≤ sizeLine)
    (h : ∀ (h' : Heap) (tk : Nat) (acc : Array Value), s.heap.objs.size < h'.objs.size → (∀ b o, s.heap.get? b = some o → h'.get? b = some o) → ItemsOf (fun i v => ∃ k x, kvs[i]? = some (k, x) ∧ knd.is k v = true) acc kvs.length → R acc.toList { s with heap := h', toks := tk }) :
    wpAny (model prog w) A (collect (.ref d)) R E s := by
  have src : KdlSrc prog w "dict" d d kvs.length (fun i v => ∃ k x, kvs[i]? = some (k, x) ∧ knd.is k v = true) (fun h => h.DictAt knd d kvs ep) := kdl_dict lo
  have dlt : d < s.heap.objs.size := (src.there _ hat).1
  have at0 : (s.heap.push { cls := .type "list", data := .seq ([] : List Value).toArray }).get? s.heap.objs.size = some { cls := .type "list", data := .seq #[] } := Heap.get?_push_size _ rfl
  have ext := kdl_extend (A := A) (s := { s with heap := s.heap.push { cls := .type "list", data := .seq ([] : List Value).toArray } })
    (R := fun (g : Result) (s' : Shared) => ∃ (h' : Heap) (tk : Nat) (acc : Array Value) (c : Nat), (g = .ok (.ret (.ref s.heap.objs.size)) ∧ s' = { s with heap := h', toks := tk }) ∧
      (∀ b o, s.heap.get? b = some o → h'.get? b = some o) ∧ h'.get? s.heap.objs.size = some { cls := .type "list", dict := none, data := .seq acc c, slots := #[] } ∧ ItemsOf (fun i v => ∃ k x, kvs[i]? = some (k, x) ∧ knd.is k v = true) acc kvs.length)
    src hh (src.keep _ _ hat fun b _ o e => Heap.get?_push_of_some _ e) s.heap.objs.size (Nat.ne_of_gt dlt) (Nat.ne_of_gt dlt) (.ref s.heap.objs.size) 0 at0
    (fun h' tk acc c hk hS hacc => ⟨h', tk, acc, c, ⟨rfl, rfl⟩, fun b o e => hk b o (Nat.ne_of_lt (Heap.lt_size e)) (Heap.get?_push_of_some _ e), hS, hacc⟩) hn
  unfold collect
  refine wpAny_bind (wpAny_runValue (codeAny_builtin entry_proto_collect' (by
    rw [Around.under_plainId PySem.F.plain_proto_collect _]
    show wpAny _ A.in1 (newList [] >>= fun l => again (.builtin "list.__iadd__" ⟨[l, .ref d], []⟩)) _ _ s
    refine wpAny_bind (wpAny_newObj_type (wpAny_pure ⟨plainId_quiet PySem.F.plain_list_iadd _, codeAny_builtin entry_list_iadd' (by
      rw [Around.under_plainId PySem.F.plain_list_iadd _]
      show wpAny _ A.in1 (Builtin.List.listExtendWith (.ref s.heap.objs.size) (.ref d) (.ref s.heap.objs.size)) _ _ _
      refine wpAny_mono ext (fun fin s' x => ?_) fun e s' x => ?_
      · cases fin with
        | done f =>
          obtain ⟨h', tk, acc, c, ⟨e, rfl⟩, hk, hS, hacc⟩ := x
          cases e
          show wpAny _ A (load s.heap.objs.size >>= _) _ _ _
          exact wpAny_bind (wpAny_load hS (wpAny_pure (h h' tk acc (Heap.lt_size hS) hk hacc)))
        | again c₁ =>
          refine ⟨x.1, codeAny_mono x.2 fun g s₂ y => ?_⟩
          obtain ⟨h', tk, acc, c, ⟨rfl, rfl⟩, hk, hS, hacc⟩ := y
          show wpAny _ A (load s.heap.objs.size >>= _) _ _ _
          exact wpAny_bind (wpAny_load hS (wpAny_pure (h h' tk acc (Heap.lt_size hS) hk hacc)))
      · obtain ⟨_, _, _, _, ⟨z, _⟩, _⟩ := x
        cases z)⟩)))))
end
section
variable {X : Cx} {e : Expr} {σ : L2.St} {H : Hp} {Q : VK} {pos p : Pos}
theorem keyIs_inl {n : Int} {v : Value} {prog : Program} {w : World} (h : (mixKind prog w).is (Sum.inl n) v = true) : ∃ t, v = .int n t := by
  rw [mixKind_is] at h
  rcases keyIs_shape h with ⟨i, t, e1, e2⟩ | ⟨x, t, e1, e2⟩
  · injection e1 with e1
    subst e1
    exact ⟨t, e2⟩
  · cases e1
open PyProof.Rows (kind_sorted plain_sorted entry_sorted args_sorted1 slot_list_sort entry_list_sort args_list_sort list_sort_tree sortedHeap_old sortedHeap_at seqObj IntsAre) in
theorem call_sortedD (hc : X.calm = true) : CallR X (.builtin "sorted") (fun xs H Q => ∃ (d : Addr) (kvs : List (Key × V)) (ns : List Int), xs = [.ref d] ∧ H d = some (.dK kvs) ∧ kvs.map (·.1) = ns.map Sum.inl ∧ ns.length < 64 ∧
    ∀ (l : Addr) (ns' : List Int), H l = none → ns'.Perm ns → ns'.Pairwise (· ≤ ·) → Q (.ref l) (upd H l (.lst (ns'.map V.int)))) := by
  intro pins s σ H xs us Q I r h
  obtain ⟨d, kvs, ns, rfl, hd, hk, hz, q⟩ := h
  obtain ⟨u, rfl, rx⟩ := vals1 r
  cases rx
  obtain ⟨z, hs, vs, rel, dd⟩ := dk_of I.hok hd
  obtain ⟨ep, hat⟩ := dd.dictAt
  have hlv : vs.length = ns.length := by
    have h1 := congrArg List.length hk
    rw [List.length_map, List.length_map] at h1
    rw [← Paired.length rel]; exact h1
  have hkv : ∀ (i : Nat) (k : Key) (x : Value), vs[i]? = some (k, x) → k = Sum.inl (ns.getD i 0) := fun i k x hx => by
    have hi : i < ns.length := by rw [← hlv]; exact (List.getElem?_eq_some_iff.mp hx).1
    have hki : i < kvs.length := by have := Paired.length rel; omega
    have e1 : (kvs.map (·.1))[i]? = some (Sum.inl (ns.getD i 0)) := by rw [hk, List.getElem?_map, List.getD_eq_getElem?_getD, List.getElem?_eq_getElem hi]; rfl
    have : ∀ {kvs : List (Key × V)} {vs : List (Key × Value)}, KV kvs vs → kvs.map (·.1) = vs.map (·.1) := by
      intro kvs vs h
      induction h with
      | nil => rfl
      | cons x t ih => rw [List.map_cons, List.map_cons, ih, x.1]
    rw [this rel, List.getElem?_map, hx] at e1
    exact Option.some.inj e1
  refine Calls.call_function_entry kind_sorted plain_sorted entry_sorted (args_sorted1 _) ?_
  unfold Builtin.«sorted»
  refine wpAny_bind (m := checkCount "sorted" 1 1 _) (wpAny_pure (wpAny_bind (collect_dict (A := X.A.in1) (I.ok.hd hc) hs hat (Nat.le_of_lt (small1000 (by omega))) fun h' tk acc hgt hkeep hacc => ?_)))
  have hal : acc.toList.length = ns.length := by rw [Array.length_toList, hacc.1, hlv]
  have hI : IntsAre acc.toList ns := by
    refine intsAre_of (vals_get ns acc.toList hal fun j v n e1 e2 => ?_)
    obtain ⟨k, x, hx, hkx⟩ := hacc.2 j v (by rw [← Array.getElem?_toList]; exact e1)
    have hkj := hkv j k x hx
    rw [hkj] at hkx
    obtain ⟨t, rfl⟩ := keyIs_inl hkx
    rw [List.getD_eq_getElem?_getD, e2]
    exact ⟨t, rfl⟩
  have hge : s.heap.objs.size ≤ h'.objs.size := Nat.le_of_lt hgt
  refine wpAny_bind (wpAny_newList ?_ (by rw [hal]; exact Nat.le_of_lt (small1000 (by omega))))
  have at1 : (h'.push (seqObj "list" acc.toList.toArray 0)).get? h'.objs.size = some (seqObj "list" acc.toList.toArray 0) := Heap.get?_push_size _ rfl
  refine wpAny_bind (wpAny_holding (wpAny_call_entry slot_list_sort ⟨_, at1, rfl⟩ entry_list_sort (list_sort_tree at1 hI (by rw [hal]; exact hz) fun out ns' a1 a2 a3 => ⟨_, rfl, wpAny_pure ⟨_, rfl, ?_⟩⟩) (args_list_sort _)))
  obtain ⟨e', he⟩ := sortedHeap_at (out := out) at1
  have hn : H h'.objs.size = none := I.hok.fresh hge
  refine ⟨.ref h'.objs.size, _, I.laid (t' := tk) (a := h'.objs.size) (o := .lst (ns'.map V.int)) (fun b o e => ?_) hge ⟨?_, out.toList, e', vals_ints a1, by simpa [seqObj] using he⟩, rfl, q _ ns' hn a2 a3⟩
  · have e1 := hkeep b o e
    have hb : b < h'.objs.size := Heap.lt_size e1
    show (PyProof.Rows.sortedHeap _ _ _ _).get? b = some o
    rw [sortedHeap_old (Nat.ne_of_lt hb) (by rw [PyProof.Rows.size_push']; exact Nat.lt_succ_of_lt hb), Heap.get?_push_of_some _ e1]
  · rw [List.length_map, a2.length_eq]
    exact Nat.le_of_lt (small1000 (by omega))
theorem we_sortedD (hc : X.calm = true) (hm : X.mg "sorted" = none) (q : WE X e σ H fun x H1 => ∃ (d : Addr) (kvs : List (Key × V)) (ns : List Int), x = .ref d ∧ H1 d = some (.dK kvs) ∧ kvs.map (·.1) = ns.map Sum.inl ∧ ns.length < 64 ∧
    ∀ (l : Addr) (ns' : List Int), H1 l = none → ns'.Perm ns → ns'.Pairwise (· ≤ ·) → Q (.ref l) (upd H1 l (.lst (ns'.map V.int)))) (hg : Gl X "sorted" := by rfl)
    (he : starEach [e] X.env = (false, eval e X.env) :: starEach [] X.env := by rfl) : WE X (.Call (.Name "sorted" p) [e] [] pos) σ H Q :=
  we_callB (call_sortedD hc) hm bt_sorted (wa_cons (WE.mono q fun x H1 ⟨d, kvs, ns, e, k⟩ => wa_nil ⟨d, kvs, ns, by rw [e], k⟩) he) hg (he := he)
end
end L2

/-! part M1 -/
set_option linter.all false
/-! mathematics: who is seen; rows laid by draws -/
namespace RS

/-- the places seen from the front, looked at one by one -/
def seenF (ns : List Int) : List Nat := (List.range ns.length).filter fun p => (ns.take p).all fun h => decide (h < ns.getD p 0)
/-- one place more -/
def along1 (ns : List Int) (acc : List Nat) (p : Nat) : List Nat := match acc.getLast? with
  | none => acc ++ [p]
  | some q => if ns.getD q 0 < ns.getD p 0 then acc ++ [p] else acc
def along (ns : List Int) (ps : List Nat) : List Nat := ps.foldl (along1 ns) []

theorem along_snoc (ns : List Int) (ps : List Nat) (p : Nat) : along ns (ps ++ [p]) = along1 ns (along ns ps) p := by
  unfold along; rw [List.foldl_append]; rfl

/-- the greatest so far is the last one seen -/
theorem along_front (ns : List Int) : ∀ n, n ≤ ns.length → along ns (List.range n) = (List.range n).filter (fun p => (ns.take p).all fun h => decide (h < ns.getD p 0)) ∧
    (match (along ns (List.range n)).getLast? with | none => n = 0 | some q => q < n ∧ ∀ k, k < n → ns.getD k 0 ≤ ns.getD q 0)
  | 0, _ => by simp [along]
  | n + 1, h => by
    obtain ⟨ih1, ih2⟩ := along_front ns n (by omega)
    have hn : n < ns.length := by omega
    rw [List.range_succ, along_snoc, List.filter_append, ← ih1]
    generalize hA : along ns (List.range n) = A at ih1 ih2
    have mem : ∀ h, h ∈ ns.take n ↔ ∃ k, k < n ∧ ns.getD k 0 = h := by
      intro h
      rw [List.mem_iff_getElem?]
      constructor
      · rintro ⟨k, hk⟩
        rw [List.getElem?_take] at hk
        split at hk
        · rename_i hkn
          exact ⟨k, hkn, by rw [List.getD_eq_getElem?_getD, hk]; rfl⟩
        · cases hk
      · rintro ⟨k, hk, e⟩
        refine ⟨k, ?_⟩
        rw [List.getElem?_take, if_pos hk]
        rw [List.getD_eq_getElem?_getD] at e
        rw [List.getElem?_eq_getElem (by omega)] at e ⊢
        simp at e
        rw [e]
    unfold along1
    cases hl : A.getLast? with
    | none =>
      rw [hl] at ih2
      subst ih2
      simp only [List.take_zero, List.all_nil, List.filter_cons, List.filter_nil, if_true]
      refine ⟨trivial, ?_⟩
      simp
    | some q =>
      rw [hl] at ih2
      obtain ⟨hq, hmax⟩ := ih2
      simp only
      by_cases hc : ns.getD q 0 < ns.getD n 0
      · rw [if_pos hc]
        have ht : ((ns.take n).all fun h => decide (h < ns.getD n 0)) = true := by
          rw [List.all_eq_true]
          intro h hh
          obtain ⟨k, hk, rfl⟩ := (mem h).mp hh
          have := hmax k hk
          exact decide_eq_true (by omega)
        refine ⟨by simp only [List.filter_cons, List.filter_nil, ht, if_true], ?_⟩
        rw [List.getLast?_concat]
        refine ⟨by omega, ?_⟩
        intro k hk
        by_cases e : k = n
        · subst e; omega
        · have := hmax k (by omega); omega
      · rw [if_neg hc]
        have ht : ((ns.take n).all fun h => decide (h < ns.getD n 0)) = false := by
          rw [Bool.eq_false_iff]
          intro z
          rw [List.all_eq_true] at z
          have := of_decide_eq_true (z _ ((mem _).mpr ⟨q, hq, rfl⟩))
          omega
        refine ⟨by simp only [List.filter_cons, List.filter_nil, ht, Bool.false_eq_true, if_false, List.append_nil], ?_⟩
        rw [hl]
        refine ⟨by omega, ?_⟩
        intro k hk
        by_cases e : k = n
        · subst e; omega
        · exact hmax k (by omega)
theorem along_range (ns : List Int) : along ns (List.range ns.length) = seenF ns := (along_front ns ns.length (Nat.le_refl _)).1

/-- two rising lists of the same members -/
theorem sorted_one : ∀ {a b : List Int}, a.Perm b → a.Pairwise (· ≤ ·) → b.Pairwise (· ≤ ·) → a = b
  | [], b, h, _, _ => (List.nil_perm.mp h).symm
  | x :: a, [], h, _, _ => absurd h.length_eq (by simp)
  | x :: a, y :: b, h, ha, hb => by
    have hxy : x = y := by
      have h1 : x ∈ y :: b := h.subset List.mem_cons_self
      have h2 : y ∈ x :: a := h.symm.subset List.mem_cons_self
      rw [List.pairwise_cons] at ha hb
      rcases List.mem_cons.mp h1 with e | e
      · exact e
      · rcases List.mem_cons.mp h2 with e' | e'
        · exact e'.symm
        · have := ha.1 y e'
          have := hb.1 x e
          omega
    subst hxy
    rw [List.pairwise_cons] at ha hb
    rw [sorted_one (List.perm_cons x |>.mp h) ha.2 hb.2]
/-! ### rows that are laid by draws -/
theorem perm_take {α : Type} : ∀ (l : List α) (i : Nat) (x : α), l[i]? = some x → l.Perm (x :: l.eraseIdx i)
  | [], _, _, h => by simp at h
  | y :: r, 0, x, h => by simp at h; subst h; simp
  | y :: r, i + 1, x, h => by
    have := perm_take r i x (by simpa using h)
    rw [List.eraseIdx_cons_succ]
    exact (this.cons y).trans (.swap x y _)
theorem perm_ins {α : Type} (l : List α) (k : Nat) (x : α) : (l.take k ++ x :: l.drop k).Perm (x :: l) := by
  refine List.perm_middle.trans ?_
  rw [List.take_append_drop]
/-- a row of 1 .. n -/
def whole (n : Nat) : List Int := (List.range n).map fun i : Nat => 1 + (i : Int)
theorem whole_nodup (n : Nat) : (whole n).Nodup := by
  unfold whole
  rw [List.nodup_iff_pairwise_ne, List.pairwise_map]
  exact (List.pairwise_lt_range (n := n)).imp fun h => by omega
theorem whole_length (n : Nat) : (whole n).length = n := by unfold whole; rw [List.length_map, List.length_range]
theorem nodup_of_perm {α : Type} {a b : List α} (h : a.Perm b) (hb : b.Nodup) : a.Nodup := h.nodup_iff.mpr hb
/-! ### draws -/
def cellF (ns : List Int) (k : Int) : Int := if k < (ns.length : Int) then ns.getD k.toNat 0 else 0
def drawF (ns : List Int) (k : Int) : Int :=
  let s1 := (cellF ns (k % 61) + 7919 * k + 104729) * 48271 % 2147483647
  let s2 := s1 * s1 % 2147483647
  s2 * 16807 % 2147483647 / 8
theorem drawF_lo (ns : List Int) (k : Int) : 0 ≤ drawF ns k := by
  unfold drawF
  exact Int.ediv_nonneg (Int.emod_nonneg _ (by decide)) (by decide)
end RS

/-! part M2 -/
set_option Elab.async false
set_option linter.all false
set_option maxRecDepth 100000
set_option maxHeartbeats 4000000
/-! MATHEMATICS 2: the numbers of rows that show so many at both ends -/
namespace RS
abbrev G2 := Int → Int → Int
/-! ### nothing below -/
/-! ### the closed form -/
end RS

/-! part M3 -/
set_option Elab.async false
set_option linter.all false
set_option maxRecDepth 100000
set_option maxHeartbeats 4000000
/-! MATHEMATICS 3: all orders, gone through; how many of them show so many -/
namespace RS
def isum : List Int → Int
  | [] => 0
  | x :: l => x + isum l
/-- who is seen beyond m; who is seen from behind -/
def recs (m : Int) : List Int → Nat
  | [] => 0
  | x :: l => if m < x then recs x l + 1 else recs m l
def bk : List Int → Nat
  | [] => 0
  | x :: l => bk l + (if (l.all fun y => decide (y < x)) = true then 1 else 0)
def hi (M : Int) (L : List Int) : List Int := L.filter fun x => decide (M < x)
def lo (M : Int) (L : List Int) : List Int := L.filter fun x => decide (x < M)
end RS

/-! part M4 -/
set_option Elab.async false
set_option linter.all false
set_option maxRecDepth 100000
set_option maxHeartbeats 4000000
/-! MATHEMATICS 4: who is seen, counted; the rows that begin alike; numbers of rows -/
namespace RS
/-! ### how many are seen -/
theorem recs_append : ∀ (l σ : List Int) (m : Int), recs m (l ++ σ) = recs m l + recs (l.foldl max m) σ
  | [], σ, m => by show recs m σ = 0 + recs m σ; omega
  | x :: l, σ, m => by
    show (if m < x then recs x (l ++ σ) + 1 else recs m (l ++ σ)) = (if m < x then recs x l + 1 else recs m l) + recs (l.foldl max (max m x)) σ
    by_cases h : m < x
    · rw [if_pos h, if_pos h, recs_append l σ x, show max m x = x by omega]; omega
    · rw [if_neg h, if_neg h, recs_append l σ m, show max m x = m by omega]
theorem fold_max_lt (x : Int) : ∀ (l : List Int) (m : Int), (decide (l.foldl max m < x)) = (decide (m < x) && l.all fun y => decide (y < x))
  | [], m => by rw [List.all_nil, Bool.and_true]; rfl
  | y :: l, m => by
    show decide (l.foldl max (max m y) < x) = _
    rw [fold_max_lt x l (max m y), List.all_cons, ← Bool.and_assoc]
    congr 1
    rw [Bool.eq_iff_iff, Bool.and_eq_true, decide_eq_true_iff, decide_eq_true_iff, decide_eq_true_iff]; omega
theorem seenF_snoc (ns : List Int) (x : Int) : seenF (ns ++ [x]) = seenF ns ++ (if (ns.all fun h => decide (h < x)) = true then [ns.length] else []) := by
  unfold seenF
  rw [List.length_append, List.length_singleton, List.range_succ, List.filter_append]
  congr 1
  · refine List.filter_congr fun p hp => ?_
    have hp := List.mem_range.mp hp
    rw [List.take_append_of_le_length (by omega)]
    have e : (ns ++ [x]).getD p 0 = ns.getD p 0 := by rw [List.getD_eq_getElem?_getD, List.getD_eq_getElem?_getD, List.getElem?_append_left hp]
    rw [e]
  · have e1 : (ns ++ [x]).take ns.length = ns := by simp
    have e2 : (ns ++ [x]).getD ns.length 0 = x := by simp [List.getD_eq_getElem?_getD]
    rw [List.filter_cons, List.filter_nil, e1, e2]
theorem seenF_len : ∀ (l : List Int) (x : Int), (seenF (x :: l)).length = recs x l + 1 := by
  intro l x
  suffices ∀ n (l : List Int), l.length = n → (seenF (x :: l)).length = recs x l + 1 from this _ l rfl
  intro n
  induction n with
  | zero =>
    intro l hl
    have e := List.eq_nil_of_length_eq_zero hl
    subst e; rfl
  | succ n ih =>
    intro l hl
    have hne : l ≠ [] := by intro z; subst z; simp at hl
    have e := (List.dropLast_concat_getLast hne).symm
    generalize l.dropLast = p at e
    generalize l.getLast hne = z at e
    subst e
    have hp : p.length = n := by simpa using hl
    rw [← List.cons_append, seenF_snoc, List.length_append, ih p hp, recs_append]
    have h := fold_max_lt z p x
    have e2 : ((x :: p).all fun h => decide (h < z)) = decide (p.foldl max x < z) := by rw [h]; rfl
    rw [e2]
    have e3 : recs (p.foldl max x) [z] = if p.foldl max x < z then 1 else 0 := by
      show (if p.foldl max x < z then recs z [] + 1 else recs _ []) = _
      rfl
    rw [e3]
    by_cases q : p.foldl max x < z
    · rw [if_pos q, if_pos (by simpa using q)]; simp <;> omega
    · rw [if_neg q, if_neg (by simpa using q)]; simp
/-- the greatest of a beginning -/
def mx : List Int → Int
  | [] => 0
  | x :: l => l.foldl max x
theorem mx_mem : ∀ (l : List Int) (x : Int), l.foldl max x = x ∨ l.foldl max x ∈ l
  | [], x => .inl rfl
  | y :: l, x => by
    show l.foldl max (max x y) = x ∨ l.foldl max (max x y) ∈ y :: l
    rcases mx_mem l (max x y) with h | h
    · rw [h]
      have : max x y = x ∨ max x y = y := by omega
      rcases this with h | h
      · exact .inl h
      · exact .inr (by rw [h]; simp)
    · exact .inr (by simp [h])
/-! ### a list of blocks -/
/-! ### the next one -/
section
variable {α β : Type} {g : α → List β} {A B : List α} {h : α}
end
end RS

/-! part M5 -/
set_option Elab.async false
set_option linter.all false
set_option maxRecDepth 100000
set_option maxHeartbeats 4000000
/-! MATHEMATICS 5: the same numbers as the program has them, in lists -/
namespace RS
end RS

/-! part M6 -/
set_option Elab.async false
set_option linter.all false
set_option maxRecDepth 100000
set_option maxHeartbeats 4000000
/-! MATHEMATICS 6: all rows, laid place by place -/
namespace RS
theorem whole_sorted (n : Nat) : (whole n).Pairwise (· < ·) := by
  unfold whole
  rw [List.pairwise_map]
  exact List.pairwise_lt_range.imp fun h => by omega
end RS

/-! part M7 -/
set_option Elab.async false
set_option linter.all false
set_option maxRecDepth 100000
set_option maxHeartbeats 4000000
/-! MATHEMATICS 7: from one place up to the whole row -/
namespace RS
end RS

/-! part M8 -/
set_option Elab.async false
set_option linter.all false
set_option maxRecDepth 100000
set_option maxHeartbeats 4000000
/-! MATHEMATICS 8: the order of rows -/
namespace RS
end RS

/-! part H1 -/
set_option Elab.async false
set_option linter.all false
set_option maxRecDepth 100000
set_option maxHeartbeats 4000000
/-! what is promised of the defs, and what the proofs lean on; no text of a law is needed here -/
namespace R
open PySem L2 RS
/-- Python's own names are not given another meaning by the text -/
structure Blt (mg : Str → Option Value) : Prop where
  len : mg "len" = none
  range : mg "range" = none
  list : mg "list" = none
  tuple : mg "tuple" = none
  sorted : mg "sorted" = none
  isinstance : mg "isinstance" = none
  int : mg "int" = none
  bool : mg "bool" = none
  set : mg "set" = none
  all : mg "all" = none
  zip : mg "zip" = none
  enumerate : mg "enumerate" = none
  max : mg "max" = none
  min : mg "min" = none
  sum : mg "sum" = none
  value : mg "ValueError" = none
/-! ### _law_cell_at -/
def spCell (K : PySem.W.Frag) : Sp := fun vs H Q _ => ∃ (a : Addr) (ns : List Int) (k : Int), vs = [.ref a, .int k] ∧ SqL K H a (ns.map V.int) ∧ 0 ≤ k ∧ Q (.int (cellF ns k)) H
theorem at_int {ns : List Int} {k : Int} (h0 : 0 ≤ k) (h : k < (ns.length : Int)) : atI (ns.map V.int) k = some (.int (ns.getD k.toNat 0)) := by
  have hk : k.toNat < ns.length := by omega
  have ek : k = ((k.toNat : Nat) : Int) := by omega
  have q : atI (ns.map V.int) ((k.toNat : Nat) : Int) = some (.int (ns.getD k.toNat 0)) := atI_nat (by rw [List.getElem?_map, List.getD_eq_getElem?_getD, List.getElem?_eq_getElem hk]; rfl)
  rw [← ek] at q
  exact q

/-! ### _law_draw -/
def spDraw (K : PySem.W.Frag) : Sp := fun vs H Q _ => ∃ (a : Addr) (ns : List Int) (k : Int), vs = [.ref a, .int k] ∧ SqL K H a (ns.map V.int) ∧ 0 ≤ k ∧ Q (.int (drawF ns k)) H

/-! ### whole numbers -/
def spWhole : Sp := fun vs H Q _ => ∃ i : Int, vs = [.int i] ∧ Q (.bl true) H



/-! ### _law_seen, _law_back -/
/-- places as values -/
def pls (ps : List Nat) : List V := ps.map fun p : Nat => V.int (p : Int)
theorem pls_length (ps : List Nat) : (pls ps).length = ps.length := List.length_map _
theorem notIn_false (bs : List Bool) : (!inV (.bl false) (bs.map V.bl)) = bs.all id := by
  unfold inV
  induction bs with
  | nil => rfl
  | cons b r ih =>
    rw [List.map_cons, List.any_cons, List.all_cons, Bool.not_or, ih]
    cases b <;> rfl
theorem filter_all {α : Type} (l : List α) : (l.filter fun _ => true) = l := List.filter_eq_self.mpr fun _ _ => rfl
theorem flat_bls (bs : List Bool) : (bs.map V.bl).all flatV = true := by
  rw [List.all_map]
  exact List.all_eq_true.mpr fun _ _ => rfl
/-! ### _law_order -/
def spOrder (K : PySem.W.Frag) : Sp := fun vs H Q _ => ∃ (a : Addr) (ns : List Int) (st many : Int), vs = [.ref a, .int st, .int many] ∧ SqL K H a (ns.map V.int) ∧ 0 ≤ st ∧ 1 ≤ many ∧ many ≤ 40 ∧
  ∀ (r : Addr) (H' : Hp) (row : List Int), H r = none → Same H H' → H' r = some (.lst (row.map V.int)) → row.Perm (whole many.toNat) → Q (.ref r) H'
theorem get_int {ns : List Int} {k : Int} (h0 : 0 ≤ k) (h : k < (ns.length : Int)) : (ns.map V.int)[k.toNat]? = some (.int (ns.getD k.toNat 0)) := by
  have hk : k.toNat < ns.length := by omega
  rw [List.getElem?_map, List.getD_eq_getElem?_getD, List.getElem?_eq_getElem hk]; rfl
theorem getD_some {ns : List Int} {k : Nat} (h : k < ns.length) : ns[k]? = some (ns.getD k 0) := by
  rw [List.getD_eq_getElem?_getD, List.getElem?_eq_getElem h]; rfl

/-! ### _law_numbers -/
def spNumbers (K : PySem.W.Frag) : Sp := fun vs H Q _ => ∃ (a b : Addr) (ns ms : List Int), vs = [.ref a, .ref b] ∧ H a = some (.lst (ns.map V.int)) ∧ SqL K H b (ms.map V.int) ∧ ns.length ≤ 100 ∧ ∀ H', Same H H' → Q (.bl (decide (ns = ms))) H'
theorem map_true (ns : List Int) : ((ns.map V.int).filter fun _ => true).map (fun _ => V.bl true) = (ns.map fun _ => true).map V.bl := by
  rw [filter_all, List.map_map, List.map_map]; rfl
theorem all_true (ns : List Int) : ((ns.map fun _ => true).all id) = true := by
  rw [List.all_map]; exact List.all_eq_true.mpr fun _ _ => rfl

/-! ### check_row, on a row -/
def spCheck : Sp := fun vs H Q _ => ∃ (a : Addr) (ns : List Int), vs = [.ref a] ∧ H a = some (.lst (ns.map V.int)) ∧ 1 ≤ ns.length ∧ ns.length ≤ 30 ∧ ns.Nodup ∧ ∀ H', Same H H' → Q .non H'

/-! ### seen_along -/
def spAlong (K : PySem.W.Frag) : Sp := fun vs H Q _ => ∃ (a b : Addr) (ns : List Int) (ps : List Nat), vs = [.ref a, .ref b] ∧ SqL K H a (ns.map V.int) ∧ SqL K H b (pls ps) ∧ (∀ p ∈ ps, p < ns.length) ∧ ps.length ≤ 100 ∧
  ∀ r H', H r = none → Same H H' → H' r = some (.lst (pls (along ns ps))) → Q (.ref r) H'
theorem along_mem (ns : List Int) : ∀ (ps : List Nat) (acc : List Nat) (p : Nat), p ∈ ps.foldl (along1 ns) acc → p ∈ acc ∨ p ∈ ps
  | [], acc, p, h => .inl h
  | x :: ps, acc, p, h => by
    rcases along_mem ns ps _ p h with h | h
    · unfold along1 at h
      split at h
      · rcases List.mem_append.mp h with h | h
        · exact .inl h
        · exact .inr (by simp at h; simp [h])
      · split at h
        · rcases List.mem_append.mp h with h | h
          · exact .inl h
          · exact .inr (by simp at h; simp [h])
        · exact .inl h
    · exact .inr (List.mem_cons_of_mem _ h)
theorem along_len (ns : List Int) : ∀ (ps : List Nat) (acc : List Nat), (ps.foldl (along1 ns) acc).length ≤ acc.length + ps.length
  | [], acc => by simp
  | x :: ps, acc => by
    rw [List.foldl_cons, List.length_cons]
    have h := along_len ns ps (along1 ns acc x)
    have h2 : (along1 ns acc x).length ≤ acc.length + 1 := by
      unfold along1
      split
      · simp
      · split <;> simp
    omega
theorem pls_append (a b : List Nat) : pls (a ++ b) = pls a ++ pls b := by unfold pls; rw [List.map_append]

/-! ### front, back, sight, of a row -/
def spPart (f : List Int → List Nat) : Sp := fun vs H Q _ => ∃ (a : Addr) (ns : List Int), vs = [.ref a] ∧ H a = some (.lst (ns.map V.int)) ∧ 1 ≤ ns.length ∧ ns.length ≤ 30 ∧ ns.Nodup ∧
  ∀ r H', H r = none → Same H H' → H' r = some (.lst (pls (f ns))) → Q (.ref r) H'
theorem ups_pls (n : Nat) : (ups 0 n).map V.int = pls (List.range n) := by
  unfold ups pls
  rw [List.map_map]
  refine List.map_congr_left fun i _ => ?_
  show V.int (0 + (i : Int)) = _
  rw [Int.zero_add]
end R

/-! part H2 -/
set_option Elab.async false
set_option linter.all false
set_option maxRecDepth 100000
set_option maxHeartbeats 4000000
namespace R
open PySem L2 RS
/-! ### counting: what is promised -/
theorem small_list {n : Nat} (h : n ≤ 1000) : n ≤ sizeLine := Nat.le_of_lt (small1000 h)
end R

/-! part H3 -/
set_option Elab.async false
set_option linter.all false
set_option maxRecDepth 100000
set_option maxHeartbeats 4000000
namespace R
open PySem L2 RS
/-! ### lists of rows in the heap -/
/-- at as stand the rows xss; none of them is p -/
def Rws (p : Addr) (H : Hp) (xss : List (List Int)) (as : List Addr) : Prop := Paired (fun ns a => a ≠ p ∧ H a = some (.lst (ns.map V.int))) xss as
theorem Rws.same {p : Addr} {H H' : Hp} {xss : List (List Int)} {as : List Addr} (h : Rws p H xss as) (s : Same H H') : Rws p H' xss as := Prd.mono (fun _ _ q => ⟨q.1, s _ _ q.2⟩) h
theorem Rws.upd {p : Addr} {H : Hp} {xss : List (List Int)} {as : List Addr} {o : HO} (h : Rws p H xss as) : Rws p (upd H p o) xss as := Prd.mono (fun _ _ q => ⟨q.1, by rw [upd_ne q.1]; exact q.2⟩) h
theorem Rws.apart {p q : Addr} {H : Hp} {xss : List (List Int)} {as : List Addr} (h : Rws p H xss as) (n : H q = none) : Rws q H xss as := Prd.mono (fun _ _ z => ⟨fun e => (by rw [e, n] at z; cases z.2), z.2⟩) h
theorem Rws.at_ {p : Addr} {H : Hp} {xss : List (List Int)} {as : List Addr} (h : Rws p H xss as) {i : Nat} {a : Addr} (e : as[i]? = some a) : ∃ ns, xss[i]? = some ns ∧ H a = some (.lst (ns.map V.int)) := by
  obtain ⟨ns, e1, e2⟩ := Prd.get h e
  exact ⟨ns, e1, e2.2⟩
theorem Rws.of_made {H H' : Hp} {D p : Addr} {xs : List Int} {as : List Addr} {g : Int → List Int} (m : Made (fun (x : Int) o => o = .lst ((g x).map V.int)) H H' D xs as) (hp : ∃ o, H p = some o) : Rws p H' (xs.map g) as := by
  obtain ⟨o, hp⟩ := hp
  have : ∀ {xs : List Int} {as : List Addr}, (∀ a ∈ as, a ≠ p) → Paired (fun x a => ∃ o, H' a = some o ∧ o = .lst ((g x).map V.int)) xs as → Rws p H' (xs.map g) as := by
    intro xs as hne h
    induction h with
    | nil => exact .nil
    | cons x t ih =>
      obtain ⟨o, e, rfl⟩ := x
      exact .cons ⟨hne _ (by simp), e⟩ (ih fun a ha => hne a (by simp [ha]))
  exact this (fun a ha z => by have := (m.new a ha).1; rw [z, hp] at this; cases this) m.pr
theorem flat_ints (ns : List Int) : (ns.map V.int).all flatV = true := by rw [List.all_map]; exact List.all_eq_true.mpr fun _ _ => rfl
theorem ixN_nat {n : Nat} {i : Int} (h0 : 0 ≤ i) (h1 : i < n) : ixN n i = some i.toNat := by unfold ixN; rw [if_pos h0, if_pos h1]
theorem whole_ups (n : Nat) : whole n = ups 1 n := rfl

/-- the int, the row that a value tells -/
def unI : V → Int
  | .int i => i
  | _ => 0
theorem un_ints (ns : List Int) : (ns.map V.int).map unI = ns := by rw [List.map_map]; exact List.map_id' _
def hoI : Option HO → List Int
  | some (.lst xs) => xs.map unI
  | _ => []
def rowOf (H : Hp) : V → List Int
  | .ref c => hoI (H c)
  | _ => []
theorem rowOf_eq {H : Hp} {c : Addr} {ns : List Int} (h : H c = some (.lst (ns.map V.int))) : rowOf H (.ref c) = ns := by
  show hoI (H c) = ns
  rw [h]; exact un_ints ns
/-! ### what is promised -/
def spLaw (K : PySem.W.Frag) : Sp := fun vs H Q _ => ∃ (a : Addr) (ns : List Int), vs = [.ref a] ∧ SqL K H a (ns.map V.int) ∧ ns.length ≤ 63 ∧ ∀ H', Q (.bl true) H'
theorem map_set_int (ns : List Int) (k : Nat) (x : Int) : (ns.map V.int).set k (.int x) = (ns.set k x).map V.int := by rw [List.map_set]
theorem rep_zero (k : Nat) : (List.replicate k [V.int 0]).flatten = (List.replicate k (0 : Int)).map V.int := by
  induction k with
  | zero => rfl
  | succ k ih => rw [List.replicate_succ, List.flatten_cons, ih, List.replicate_succ, List.map_cons]; rfl
end R

/-! part H4 -/
set_option Elab.async false
set_option linter.all false
set_option maxRecDepth 100000
set_option maxHeartbeats 4000000
namespace R
open PySem L2 RS
/-! ### whole rows -/
def spEach (K : PySem.W.Frag) : Sp := fun vs H Q _ => ∃ (a : Addr) (ns : List Int) (m : Nat), vs = [.ref a, .int m] ∧ SqL K H a (ns.map V.int) ∧ ns.length < 64 ∧ m ≤ 60 ∧ ∀ H', Same H H' → Q (.bl (decide (ns.Perm (whole m)))) H'
def spCheckW : Sp := fun vs H Q _ => ∃ (a : Addr) (ns : List Int) (m : Nat), vs = [.ref a] ∧ H a = some (.lst (ns.map V.int)) ∧ ns.Perm (whole m) ∧ 1 ≤ m ∧ m ≤ 30 ∧ ∀ H', Same H H' → Q .non H'
theorem whole_le (m : Nat) : (whole m).Pairwise (· ≤ ·) := (whole_sorted m).imp fun h => by omega
theorem each_iff {ns ns' : List Int} {m : Nat} (hp : ns'.Perm ns) (hs : ns'.Pairwise (· ≤ ·)) : decide (ns' = whole m) = decide (ns.Perm (whole m)) := by
  rw [decide_eq_decide]
  constructor
  · intro e; rw [← e]; exact hp.symm
  · intro h; exact sorted_one (hp.trans h) hs (whole_le m)
/-! ### counting on -/
end R

/-! part H5 -/
set_option Elab.async false
set_option linter.all false
set_option maxRecDepth 100000
set_option maxHeartbeats 4000000
namespace R
open PySem L2 RS
/-- C is an own class of exceptions, by its name -/
structure ExC (K : PySem.W.Frag) (mg : Str → Option Value) (x : Str) (C : Addr) : Prop where
  mg_ : mg x = some (.ref C)
  exc : Exc K C
end R

/-! part H6 -/
set_option Elab.async false
set_option linter.all false
set_option maxRecDepth 100000
set_option maxHeartbeats 4000000
namespace R
open PySem L2 RS
/-- the own classes of exceptions; D is the j-th of the four -/
structure ExD (K : PySem.W.Frag) (mg : Str → Option Value) (D Cs Cr Cg Cn Cq : Addr) (j : Nat) : Prop where
  ei : ExcI K D
  k1 : PySem.W.kitOne K (.ref D) (.ref Cr) = some (j == 0)
  k2 : PySem.W.kitOne K (.ref D) (.ref Cg) = some (j == 1)
  k3 : PySem.W.kitOne K (.ref D) (.ref Cn) = some (j == 2)
  k4 : PySem.W.kitOne K (.ref D) (.ref Cq) = some (j == 3)
  ks : PySem.W.kitOne K (.ref D) (.ref Cs) = some true
  kv : PySem.W.kitOne K (.ref D) (.type "ValueError") = some true
  ex : PySem.W.exmOne K (.ref D) (.ref Cs) = some true
  ms : mg "SightError" = some (.ref Cs)
  m1 : mg "BadRow" = some (.ref Cr)
  m2 : mg "BadRings" = some (.ref Cg)
  m3 : mg "NoSuch" = some (.ref Cn)
  m4 : mg "BadSquare" = some (.ref Cq)
  lt : j < 4
def spAlone (D : Addr) (j : Nat) : Sp := fun vs H Q _ => ∃ x : Addr, vs = [.ref x] ∧ H x = some (ExcO x D) ∧ ∀ H', Same H H' → Q (.int (j : Int)) H'
theorem Rws.filter {p : Addr} {H : Hp} {xss : List (List Int)} {as : List Addr} (h : Rws p H xss as) (P : List Int → Bool) : ∃ bs : List Addr, (as.map V.ref).filter (fun v => P (rowOf H v)) = bs.map V.ref ∧ Rws p H (xss.filter P) bs := by
  induction h with
  | nil => exact ⟨[], rfl, .nil⟩
  | cons x t ih =>
    rename_i nc c l1 l2
    obtain ⟨bs, e, r⟩ := ih
    rw [List.map_cons, List.filter_cons, List.filter_cons, rowOf_eq x.2]
    by_cases hp : P nc = true
    · rw [if_pos hp, if_pos hp, e]
      exact ⟨c :: bs, rfl, .cons x r⟩
    · rw [if_neg hp, if_neg hp]
      exact ⟨bs, e, r⟩
theorem Rws.mem {p : Addr} {H : Hp} {xss : List (List Int)} {as : List Addr} (h : Rws p H xss as) {x : V} (hx : x ∈ as.map V.ref) : ∃ c nc, x = .ref c ∧ nc ∈ xss ∧ H c = some (.lst (nc.map V.int)) := by
  obtain ⟨c, hc, rfl⟩ := List.mem_map.mp hx
  obtain ⟨nc, h1, _, h2⟩ := Prd.mem h c hc
  exact ⟨c, nc, rfl, h1, h2⟩
theorem one_ix {α : Type} {l : List α} (h : l.Nodup) {i j : Nat} {x : α} (a : l[i]? = some x) (b : l[j]? = some x) : i = j := by
  obtain ⟨h1, e1⟩ := List.getElem?_eq_some_iff.mp a
  obtain ⟨h2, e2⟩ := List.getElem?_eq_some_iff.mp b
  exact (List.getElem_inj h).mp (e1.trans e2.symm)
end R

/-! part Fin -/
set_option Elab.async false
set_option linter.all false
set_option maxRecDepth 100000
set_option maxHeartbeats 4000000
namespace L2
open PySem
theorem df_mk {K : PySem.W.Frag} {h : Heap} {mg : Str → Option Value} {x : Str} {ps : List Str} {st : Stmt} {f : Addr} {oc kV doc pm cdv ct : Value} {od an : Option Addr} {osl : Array (Option Value)} (X : K.In h) (G : h.Ns mainGlobals mg)
    (a : PySem.W.nsIn K mainGlobals x = some (some (.ref f))) (l : K.lookup f = some ⟨oc, od, .func (PySem.W.fnOf x x (defArgs st) (defBody st) (defScope st) .none kV doc pm an cdv ct), osl⟩) (c : PySem.W.codeIn K cdv x = true) (k : PySem.W.keepIn K (.ref f) = true)
    (b : ∀ (kV doc pm : Value) (an : Option Addr) (cdv ct : Value) (us : List Value), us.length = ps.length → bindArgs (PySem.W.fnOf x x (defArgs st) (defBody st) (defScope st) .none kV doc pm an cdv ct) ⟨us, []⟩ = pure (ps.zip us)) : Df K mg x ps st :=
  ⟨f, _, PySem.W.mg_of X G a, fun_mk (st := st) l c k, (fun_mk (st := st) l c k).binds b⟩
theorem int_mk {K : PySem.W.Frag} {h : Heap} {mg : Str → Option Value} {x : Str} {v : Value} {i : Int} {t : Tok} (X : K.In h) (G : h.Ns mainGlobals mg) (a : PySem.W.nsIn K mainGlobals x = some (some v)) (e : v = .int i t) : ∃ t, mg x = some (.int i t) :=
  ⟨t, by rw [← e]; exact PySem.W.mg_of X G a⟩
/-- the law's def as walk_of wants it -/
theorem law_fd {P : Program} {w : World} {K : PySem.W.Frag} {h : Heap} {mg : Str → Option Value} {CX : CXT} {k : Nat} {sp : Sp} {fa f : Addr} {st : Stmt} {oc kV doc pm cdv ct : Value} {od an : Option Addr} {osl : Array (Option Value)} (X : K.In h) (G : h.Ns mainGlobals mg)
    (a : PySem.W.nsIn K mainGlobals "law" = some (some (.ref f))) (l : K.lookup f = some ⟨oc, od, .func (PySem.W.fnOf "law" "law" (defArgs st) (defBody st) (defScope st) .none kV doc pm an cdv ct), osl⟩) (hfa : mg "law" = some (.ref fa))
    (hb : ∀ (s : Shared) (v : Value), BindsTo s (PySem.W.fnOf "law" "law" (defArgs st) (defBody st) (defScope st) .none kV doc pm an cdv ct) ⟨[v], []⟩ [("script", v)]) (ok : ∀ base : Heap, Fd P w K mg base CX "law" ["script"] k sp) :
    ∃ fd : FuncData, (∀ (s : Shared) (v : Value), BindsTo s fd ⟨[v], []⟩ [("script", v)]) ∧ ∀ base : Heap, K.In base → base.Ns mainGlobals mg → FnOk P w K mg base CX k fa fd ["script"] sp := by
  refine ⟨_, hb, fun base _ _ => ?_⟩
  obtain ⟨f', fd', m', kp, bd, ok', oc', od', osl', l'⟩ := (ok base).ex
  have e1 := PySem.W.mg_of X G a
  rw [e1] at m' hfa
  cases m'
  cases hfa
  rw [l] at l'
  cases l'
  exact ok'
end L2
namespace L2
open PySem
theorem walk_ofX {l : PySem.W.OpenLaw} {n k : Nat} {q : Program} {loose : List Str} {XP : (Str → Option Value) → Heap → Prop} {YP : World → Heap → Prop} {d : DefRec} {K : Params → PySem.W.Frag} {CX : World → CXT} {sp : PySem.W.Frag → Sp} {x : Str}
    (hn : l.most = some n) (hn2 : n ≤ sizeLine) (hdf : d.params.defaults = []) (hr : Room k callerA) (hY : ∀ (w : World) (h : Heap), YP w h → (K w.params).In h)
    (F : ∀ (w : World) (mg : Str → Option Value) (fa : Addr) (h : Heap), (K w.params).In h → h.Ns mainGlobals mg → mg d.name = some (.ref fa) → ∃ fd : FuncData, (∀ (s : Shared) (u : Value), BindsTo s fd ⟨[u], []⟩ [(x, u)]) ∧
        ∀ base : Heap, (K w.params).In base → base.Ns mainGlobals mg → FnOk l.prog w (K w.params) mg base (CX w) k fa fd [x] (sp (K w.params)))
    (hsp : ∀ (K : PySem.W.Frag) (H : Hp) (a : Addr) (ns : List Int), ns.length ≤ n → Only H → SqL K H a (ns.map V.int) → sp K [.ref a] H (fun v _ => v = .bl true) fun _ _ _ => False) (hCX : ∀ w : World, Strict (CX w)) :
    PySem.W.WalkO q loose XP YP l.row.toRowW d [] (fun f vs => PySem.call f vs) :=
  walk_of (K := K) (CX := CX) (sp := fun w => sp (K w.params)) hn hn2 hdf hr hY F (fun w H a ns h1 h2 h3 => hsp (K w.params) H a ns h1 h2 h3) fun w H s e s' => hCX w [] H s e s'
theorem ref_mk {K : PySem.W.Frag} {h : Heap} {mg : Str → Option Value} {x : Str} {C : Addr} (X : K.In h) (G : h.Ns mainGlobals mg) (a : PySem.W.nsIn K mainGlobals x = some (some (.ref C))) : mg x = some (.ref C) := PySem.W.mg_of X G a
end L2
namespace L2
open PySem PySem.W
theorem cls_is {K : Frag} {C : Addr} {oc : Value} {od : Option Addr} {cd : ClassData} {sl : Array (Option Value)} (l : K.lookup C = some ⟨oc, od, .cls cd, sl⟩) : clsIn K C = some cd := by unfold clsIn; rw [l]
theorem kitC_mk {K : Frag} {D C : Addr} {od : Option Addr} {cd : ClassData} {sl : Array (Option Value)} {b : Bool} (l : K.lookup C = some ⟨.type "type", od, .cls cd, sl⟩) (m : mroIn K D (.ref C) = some b) : kitCls K (.ref D) (.ref C) = some b := by
  show (if ((clsIn K C).isSome && typeIn K (.ref C) == some (.type "type")) = true then subIn K (.ref D) (.ref C) else none) = some b
  have t : typeIn K (.ref C) = some (.type "type") := by show (K.lookup C).map (·.cls) = _; rw [l]; rfl
  rw [cls_is l, t, if_pos (by rw [Option.isSome_some, Bool.true_and]; decide)]
  exact m
theorem kit_mk {K : Frag} {D C : Addr} {od : Option Addr} {cd : ClassData} {sl : Array (Option Value)} {b : Bool} (l : K.lookup C = some ⟨.type "type", od, .cls cd, sl⟩) (m : mroIn K D (.ref C) = some b) (hb : D = C → b = true) : kitOne K (.ref D) (.ref C) = some b := by
  unfold kitOne
  by_cases e : (Value.ref D == Value.ref C) = true
  · rw [if_pos e]
    have : D = C := by have := eq_of_beq e; injection this
    rw [hb this]
  · rw [if_neg e]; exact kitC_mk l m
theorem kitT_mk {K : Frag} {D : Addr} {b : Bool} (m : mroIn K D (.type "ValueError") = some b) : kitOne K (.ref D) (.type "ValueError") = some b := by
  unfold kitOne
  rw [if_neg (by intro e; have := eq_of_beq e; cases this)]
  show (if kitMeta "ValueError" = true then subIn K (.ref D) (.type "ValueError") else none) = some b
  rw [if_pos (by decide +kernel)]
  exact m
theorem exm_mk {K : Frag} {D C : Addr} {od : Option Addr} {cd : ClassData} {sl : Array (Option Value)} {b : Bool} (l : K.lookup C = some ⟨.type "type", od, .cls cd, sl⟩) (m : mroIn K D (.ref C) = some b) (mb : mroIn K C (.type "BaseException") = some true) : exmOne K (.ref D) (.ref C) = some b := by
  unfold exmOne
  have : subIn K (.ref C) (.type "BaseException") = some true := mb
  rw [this, if_pos (by decide)]
  exact kitC_mk l m
end L2
namespace L2
open PySem PySem.W
theorem nsOk_mk {K : Frag} {N : Addr} {a1 : Value} {a2 : Option Addr} {es : Array DictEntry} {ep : Nat} {a3 : Array (Option Value)} (n : K.lookup N = some ⟨a1, a2, .dict es ep, a3⟩) (e : (es.all fun e => match e.key with | .str _ _ => true | _ => false) = true) : nsOkIn K N = true := by unfold nsOkIn; rw [n]; exact e
theorem exc_of {K : Frag} {C Cs N Ns : Addr} {dd dds : Option Addr} {cd cds : ClassData} {sl sls : Array (Option Value)} {k0 k1 k2 k3 k5 : Option Value} {os a1 b1 : Value} {a2 b2 : Option Addr} {es fs : Array DictEntry} {ep fp : Nat} {a3 b3 : Array (Option Value)}
    (l : K.lookup C = some ⟨.type "type", dd, .cls cd, sl⟩) (ls : K.lookup Cs = some ⟨os, dds, .cls cds, sls⟩) (hm : cd.mro = .ref C :: .ref Cs :: vmro) (hs : sl.toList = [k0, k1, k2, k3, some (.builtin "ValueError.__new__"), k5]) (hd : cd.hasDel = false) (hN : cd.ns = N) (hNs : cds.ns = Ns)
    (n1 : K.lookup N = some ⟨a1, a2, .dict es ep, a3⟩) (i1 : nsIn K N "__init__" = some none) (n2 : K.lookup Ns = some ⟨b1, b2, .dict fs fp, b3⟩) (i2 : nsIn K Ns "__init__" = some none)
    (e1 : (es.all fun e => match e.key with | .str _ _ => true | _ => false) = true) (e2 : (fs.all fun e => match e.key with | .str _ _ => true | _ => false) = true) : Exc K C := by
  show excIn K C vmro "ValueError.__new__" = true
  unfold excIn
  rw [l]
  show (match cd.mro, sl.toList with | .ref C' :: bm, [_, _, _, _, some (.builtin n), _] => C' == C && n == "ValueError.__new__" && !cd.hasDel && tailIn K vmro bm && nsOkIn K cd.ns && nsIn K cd.ns "__init__" == some none | _, _ => false) = true
  rw [hm, hs, hd, hN]
  show (C == C && "ValueError.__new__" == "ValueError.__new__" && !false && tailIn K vmro (.ref Cs :: vmro) && nsOkIn K N && nsIn K N "__init__" == some none) = true
  have t : tailIn K vmro (.ref Cs :: vmro) = true := by
    unfold tailIn
    show (_ || (match K.lookup Cs with | some ⟨_, _, .cls cd, _⟩ => nsOkIn K cd.ns && nsIn K cd.ns "__init__" == some none && tailIn K vmro vmro | _ => false)) = true
    rw [ls]
    show (_ || (nsOkIn K cds.ns && nsIn K cds.ns "__init__" == some none && tailIn K vmro vmro)) = true
    have tv : tailIn K vmro vmro = true := by unfold tailIn; simp
    rw [hNs, nsOk_mk n2 e2, i2, tv]
    simp
  rw [t, nsOk_mk n1 e1, i1]
  simp
end L2
namespace R
open PySem PySem.W L2
theorem exd_mk {K : Frag} {h : Heap} {mg : Str → Option Value} {D Cs Cr Cg Cn Cq : Addr} {j : Nat} {ods od1 od2 od3 od4 odD : Option Addr} {cds cd1 cd2 cd3 cd4 cdD : ClassData} {sls sl1 sl2 sl3 sl4 slD : Array (Option Value)} {ocD : Value} (X : K.In h) (G : h.Ns mainGlobals mg)
    (ms : nsIn K mainGlobals "SightError" = some (some (.ref Cs))) (m1 : nsIn K mainGlobals "BadRow" = some (some (.ref Cr))) (m2 : nsIn K mainGlobals "BadRings" = some (some (.ref Cg))) (m3 : nsIn K mainGlobals "NoSuch" = some (some (.ref Cn))) (m4 : nsIn K mainGlobals "BadSquare" = some (some (.ref Cq)))
    (ls : K.lookup Cs = some ⟨.type "type", ods, .cls cds, sls⟩) (l1 : K.lookup Cr = some ⟨.type "type", od1, .cls cd1, sl1⟩) (l2 : K.lookup Cg = some ⟨.type "type", od2, .cls cd2, sl2⟩) (l3 : K.lookup Cn = some ⟨.type "type", od3, .cls cd3, sl3⟩) (l4 : K.lookup Cq = some ⟨.type "type", od4, .cls cd4, sl4⟩) (lD : K.lookup D = some ⟨ocD, odD, .cls cdD, slD⟩)
    (i1 : findIn K (.ref D) "__getattribute__" = some (some (.builtin "BaseException.__getattribute__"))) (i2 : findIn K (.ref D) "__getattr__" = some none) (i3 : findIn K (.ref D) "__class__" = some (some (.builtin "object.__class__"))) (i4 : specialIn K (.builtin "object.__class__") "__get__" = some (some (.builtin "getset_descriptor.__get__"))) (i5 : takesIn K (.builtin "object.__class__") = some true)
    (i6 : mroIn K D (.type "object") = some true) (i7 : mroIn K D (.type "BaseException") = some true) (q1 : mroIn K D (.ref Cr) = some (j == 0)) (q2 : mroIn K D (.ref Cg) = some (j == 1)) (q3 : mroIn K D (.ref Cn) = some (j == 2)) (q4 : mroIn K D (.ref Cq) = some (j == 3)) (qs : mroIn K D (.ref Cs) = some true) (qv : mroIn K D (.type "ValueError") = some true) (qb : mroIn K Cs (.type "BaseException") = some true)
    (b1 : D = Cr → (j == 0) = true) (b2 : D = Cg → (j == 1) = true) (b3 : D = Cn → (j == 2) = true) (b4 : D = Cq → (j == 3) = true) (lt : j < 4) : ExD K mg D Cs Cr Cg Cn Cq j :=
  ⟨⟨i1, i2, i3, i4, i5, i6, i7, by rw [cls_is lD]; rfl⟩, kit_mk l1 q1 b1, kit_mk l2 q2 b2, kit_mk l3 q3 b3, kit_mk l4 q4 b4, kit_mk ls qs (fun _ => rfl), kitT_mk qv, exm_mk ls qs qb, mg_of X G ms, mg_of X G m1, mg_of X G m2, mg_of X G m3, mg_of X G m4, lt⟩
end R

/-! part H8 -/
set_option Elab.async false
set_option linter.all false
set_option maxRecDepth 100000
set_option maxHeartbeats 4000000
namespace R
open PySem L2 RS
/-! ### rings -/
def cutsF (row : List Int) : List (List Int) := ((seenF row).zip ((seenF row).drop 1 ++ [row.length])).map fun p => (row.drop p.1).take (p.2 - p.1)
def spRings : Sp := fun vs H Q _ => ∃ (a : Addr) (ns : List Int) (m : Nat), vs = [.ref a] ∧ H a = some (.lst (ns.map V.int)) ∧ ns.Perm (whole m) ∧ 1 ≤ m ∧ m ≤ 30 ∧
  ∀ r H' as, H r = none → Same H H' → H' r = some (.lst (as.map V.ref)) → Made (fun (ring : List Int) o => o = .lst (ring.map V.int)) H H' r (cutsF ns) as → Q (.ref r) H'
theorem made_map {α β : Type} {T : β → HO → Prop} {f : α → β} {H H' : Hp} {D : Addr} {xs : List α} {as : List Addr} (m : Made (fun x o => T (f x) o) H H' D xs as) : Made T H H' D (xs.map f) as := by
  refine ⟨?_, m.nd, m.new⟩
  have : ∀ {xs : List α} {as : List Addr}, Paired (fun x a => ∃ o, H' a = some o ∧ T (f x) o) xs as → Paired (fun y a => ∃ o, H' a = some o ∧ T y o) (xs.map f) as := by
    intro xs as h
    induction h with
    | nil => exact .nil
    | cons x t ih => exact .cons x ih
  exact this m.pr
/-! ### refusals -/
def okRow (ns : List Int) : Prop := 1 ≤ ns.length ∧ ns.length ≤ 30 ∧ ns.Nodup
instance (ns : List Int) : Decidable (okRow ns) := by unfold okRow; infer_instance
/-! ### rows with a fault -/
theorem not_whole {ns : List Int} {x : Int} (hx : x ∈ ns) (h : x < 1 ∨ (ns.length : Int) < x) : ¬ ns.Perm (whole ns.length) := fun hp => by
  have := hp.subset hx
  unfold whole at this
  obtain ⟨i, hi, rfl⟩ := List.mem_map.mp this
  have := List.mem_range.mp hi
  omega
theorem mem_bd {rw : List Int} {m : Nat} (hp : rw.Perm (whole m)) {x : Int} (hx : x ∈ rw) : 1 ≤ x ∧ x ≤ (m : Int) := by
  have := hp.subset hx
  unfold whole at this
  obtain ⟨i, hi, rfl⟩ := List.mem_map.mp this
  have := List.mem_range.mp hi
  omega
end R

/-! part H9 -/
set_option Elab.async false
set_option linter.all false
set_option maxRecDepth 100000
set_option maxHeartbeats 4000000
namespace R
open PySem L2 RS
/-! ### squares, wishes -/
def RwsA (H : Hp) (xss : List (List Int)) (as : List Addr) : Prop := Paired (fun ns a => H a = some (.lst (ns.map V.int))) xss as
theorem RwsA.same {H H' : Hp} {xss : List (List Int)} {as : List Addr} (h : RwsA H xss as) (s : Same H H') : RwsA H' xss as := Prd.mono (fun _ _ q => s _ _ q) h
def WiAt (H : Hp) (w : Addr) (W : List (List Int)) : Prop := ∃ as : List Addr, LT H w (as.map V.ref) ∧ RwsA H W as
def SqAt (H : Hp) (q : Addr) (S : List (List Int)) : Prop := ∃ as : List Addr, H q = some (.lst (as.map V.ref)) ∧ RwsA H S as
theorem WiAt.same {H H' : Hp} {w : Addr} {W : List (List Int)} (h : WiAt H w W) (s : Same H H') : WiAt H' w W := let ⟨as, a, b⟩ := h; ⟨as, a.same s, b.same s⟩
theorem SqAt.same {H H' : Hp} {w : Addr} {W : List (List Int)} (h : SqAt H w W) (s : Same H H') : SqAt H' w W := let ⟨as, a, b⟩ := h; ⟨as, s _ _ a, b.same s⟩
theorem RwsA.nth {H : Hp} {xss : List (List Int)} {as : List Addr} (h : RwsA H xss as) {k : Nat} (hk : k < xss.length) : ∃ a, as[k]? = some a ∧ H a = some (.lst ((xss.getD k []).map V.int)) := by
  obtain ⟨b, e1, e2⟩ := Prd.getL h (List.getElem?_eq_getElem hk)
  refine ⟨b, e1, ?_⟩
  rw [List.getD_eq_getElem?_getD, List.getElem?_eq_getElem hk]; exact e2
theorem at_ref {as : List Addr} {k : Nat} {a : Addr} (h : as[k]? = some a) : atI (as.map V.ref) (k : Int) = some (.ref a) := atI_nat (by rw [List.getElem?_map, h]; rfl)
def okW (W : List (List Int)) (n : Nat) : Prop := W.length = 4 ∧ 1 ≤ n ∧ n ≤ 4 ∧ ∀ w ∈ W, w.length = n ∧ ∀ x ∈ w, 0 ≤ x ∧ x ≤ (n : Int)
theorem okW.at_ {W : List (List Int)} {n k : Nat} (h : okW W n) (hk : k < 4) : W.getD k [] ∈ W := by
  have := h.1
  rw [List.getD_eq_getElem?_getD, List.getElem?_eq_getElem (by omega)]
  exact List.getElem_mem _
theorem okW.len {W : List (List Int)} {n k : Nat} (h : okW W n) (hk : k < 4) : (W.getD k []).length = n := (h.2.2.2 _ (h.at_ hk)).1
theorem all_map_bl {α : Type} (l : List α) (p : α → Bool) : (l.map p).all id = l.all p := by rw [List.all_map]; rfl
end R

/-! part H10 -/
set_option Elab.async false
set_option linter.all false
set_option maxRecDepth 100000
set_option maxHeartbeats 4000000
namespace R
open PySem L2 RS
section
variable {X : Cx} {σ : St} {H : Hp} {Q : VK}
end
section
variable {X : Cx} {σ : St} {H : Hp} {Q : VK}
/-- a[k:] + a[:k] -/
theorem we_turn {l : Addr} {xs : List V} {k : Nat} {a b a' b' : Expr} {p1 p2 p3 p4 p5 : Pos} (hl : H l = some (.lst xs)) (hk : k ≤ xs.length) (hz : xs.length ≤ 1000)
    (h1 : ∀ H', Same H H' → WE X a σ H' fun x H1 => x = .ref l ∧ H1 = H') (h2 : ∀ H', Same H H' → WE X b σ H' fun x H1 => x = .int (k : Int) ∧ H1 = H')
    (h3 : ∀ H', Same H H' → WE X a' σ H' fun x H1 => x = .ref l ∧ H1 = H') (h4 : ∀ H', Same H H' → WE X b' σ H' fun x H1 => x = .int (k : Int) ∧ H1 = H')
    (q : ∀ r H', H r = none → Same H H' → H' r = some (.lst (xs.drop k ++ xs.take k)) → Q (.ref r) H') :
    WE X (.BinOp (.Subscript a (.Slice (some b) none none p1) p2) .Add (.Subscript a' (.Slice none (some b') none p3) p4) p5) σ H Q := by
  refine we_cat (we_sliceA (WE.mono (h1 H (Same.refl H)) fun x H1 ⟨e1, e2⟩ => ?_))
  subst e1 e2
  refine WE.mono (h2 H1 (Same.refl H1)) fun y H2 ⟨e3, e4⟩ => ?_
  subst e3 e4
  refine ⟨_, rfl, l, xs, rfl, SqL.of hl, fun p hp => ?_⟩
  rw [cutV_A _ _ hk]
  have sp := same_upd hp (.lst (xs.drop k))
  have ep : (upd H2 p (.lst (xs.drop k))) p = some (.lst (xs.drop k)) := upd_same
  generalize upd H2 p (.lst (xs.drop k)) = Hp1 at sp ep
  refine we_sliceB (WE.mono (h3 Hp1 sp) fun x H3 ⟨e5, e6⟩ => ?_)
  subst e5 e6
  refine WE.mono (h4 H3 sp) fun y H4 ⟨e7, e8⟩ => ?_
  subst e7 e8
  refine ⟨_, rfl, l, xs, rfl, SqL.of (sp _ _ hl), fun p' hp' => ?_⟩
  rw [cutV_B _ _ hk]
  have sp' := same_upd hp' (.lst (xs.take k))
  refine ⟨p, p', _, _, rfl, rfl, sp' _ _ ep, upd_same, small_list (by rw [List.length_drop, List.length_take]; omega), fun r hr => ?_⟩
  exact q r _ ((sp.trans sp').free hr) ((sp.trans sp').trans (same_upd hr _)) upd_same
end
/-! ### a list of rows of ints, all of it made since H0 -/
structure Sq (p : List Int → Prop) (H0 H : Hp) (q : Addr) (as : List Addr) : Prop where
  same : Same H0 H
  hq : H q = some (.lst (as.map V.ref))
  fq : H0 q = none
  rows : ∀ a ∈ as, H0 a = none ∧ a ≠ q ∧ ∃ ns : List Int, H a = some (.lst (ns.map V.int)) ∧ p ns
section
variable {p p' : List Int → Prop} {H0 H1 H H' : Hp} {q a c : Addr} {as bs : List Addr} {ns : List Int}
theorem Sq.grow (h : Sq p H0 H q as) (s : Same H H') : Sq p H0 H' q as := ⟨h.same.trans s, s _ _ h.hq, h.fq, fun a ha => let ⟨x, y, ns, e, z⟩ := h.rows a ha; ⟨x, y, ns, s _ _ e, z⟩⟩
theorem Sq.imp (h : Sq p H0 H q as) (m : ∀ ns, p ns → p' ns) : Sq p' H0 H q as := ⟨h.same, h.hq, h.fq, fun a ha => let ⟨x, y, ns, e, z⟩ := h.rows a ha; ⟨x, y, ns, e, m _ z⟩⟩
theorem Sq.down (h : Sq p H1 H q as) (s : Same H0 H1) : Sq p H0 H q as := ⟨s.trans h.same, h.hq, s.free h.fq, fun a ha => let ⟨x, y, ns, e, z⟩ := h.rows a ha; ⟨s.free x, y, ns, e, z⟩⟩
theorem same_new {o : HO} (s : Same H0 H) (n : H0 c = none) : Same H0 (upd H c o) := fun b u e => by rw [upd_ne (fun z => by rw [z, n] at e; cases e)]; exact s _ _ e
theorem Sq.row (h : Sq p H0 H q as) (ha : a ∈ as) (hp : p ns) : Sq p H0 (upd H a (.lst (ns.map V.int))) q as := by
  obtain ⟨f, ne, _⟩ := h.rows a ha
  refine ⟨same_new h.same f, by rw [upd_ne (Ne.symm ne)]; exact h.hq, h.fq, fun b hb => ?_⟩
  obtain ⟨x, y, ms, e, z⟩ := h.rows b hb
  refine ⟨x, y, ?_⟩
  by_cases hba : b = a
  · subst hba; exact ⟨ns, upd_same, hp⟩
  · exact ⟨ms, by rw [upd_ne hba]; exact e, z⟩
theorem Sq.outer (h : Sq p H0 H q as) (hb : ∀ b ∈ bs, b ∈ as ∨ (H0 b = none ∧ b ≠ q ∧ ∃ ns : List Int, H b = some (.lst (ns.map V.int)) ∧ p ns)) : Sq p H0 (upd H q (.lst (bs.map V.ref))) q bs := by
  refine ⟨same_new h.same h.fq, upd_same, h.fq, fun b hm => ?_⟩
  obtain ⟨x, y, ms, e, z⟩ : H0 b = none ∧ b ≠ q ∧ ∃ ns : List Int, H b = some (.lst (ns.map V.int)) ∧ p ns := (hb b hm).elim (fun m => h.rows b m) id
  exact ⟨x, y, ms, by rw [upd_ne y]; exact e, z⟩
theorem Sq.other {o : HO} (h : Sq p H0 H q as) (n : H0 c = none) (n1 : c ≠ q) (n2 : c ∉ as) : Sq p H0 (upd H c o) q as :=
  ⟨same_new h.same n, by rw [upd_ne (Ne.symm n1)]; exact h.hq, h.fq, fun b hb => let ⟨x, y, ms, e, z⟩ := h.rows b hb; ⟨x, y, ms, by rw [upd_ne (fun w : b = c => n2 (by rw [← w]; exact hb))]; exact e, z⟩⟩
theorem Sq.at_ (h : Sq p H0 H q as) {k : Nat} (hk : k < as.length) : ∃ (a : Addr) (ns : List Int), as[k]? = some a ∧ a ∈ as ∧ H a = some (.lst (ns.map V.int)) ∧ p ns := by
  obtain ⟨_, _, ns, e, z⟩ := h.rows as[k] (List.getElem_mem hk)
  exact ⟨as[k], ns, List.getElem?_eq_getElem hk, List.getElem_mem hk, e, z⟩
theorem Sq.len (h : Sq p H0 H q as) : (as.map V.ref).length = as.length := List.length_map _
/-- its numbers -/
def valS (H : Hp) (as : List Addr) : List (List Int) := as.map fun a => rowOf H (.ref a)
theorem Sq.val (h : Sq p H0 H q as) : ∀ r ∈ valS H as, p r := fun r hr => by
  obtain ⟨a, ha, rfl⟩ := List.mem_map.mp hr
  obtain ⟨_, _, ns, e, z⟩ := h.rows a ha
  rw [rowOf_eq e]; exact z
end
/-! ### the law's own defs -/
def wishP (m : Nat) (ns : List Int) : Prop := ns.length = m ∧ ∀ x ∈ ns, 0 ≤ x ∧ x ≤ (m : Int)
theorem SqAt.wi {H : Hp} {wa : Addr} {W : List (List Int)} (h : SqAt H wa W) : WiAt H wa W := let ⟨as, a, b⟩ := h; ⟨as, .inl a, b⟩
def sqP (ns : List Int) : Prop := ns.length ≤ 8
/-- between the steps of _law_square -/
def sqIv (a : Addr) (m : Nat) (way : Int) (k : Nat) (H : Hp) (done : List Int) (σ' : St) (H' : Hp) : Prop := ∃ r q oth, σ' = [some (.ref a), some (.int m), some (.ref r), some (.ref q), some (.int way), some (.int (k : Int)), oth] ∧ Same H H' ∧
  ((way ∉ done ∧ ∃ (as : List Addr) (rw' : List Int), Sq (fun ns => ns.length = m) H H' q as ∧ as.length = m ∧ H' r = some (.lst (rw'.map V.int)) ∧ rw'.length = m) ∨ (way ∈ done ∧ ∃ as, Sq sqP H H' q as ∧ as.length ≤ 8))
theorem sqIv.take {a : Addr} {m : Nat} {way j : Int} {k : Nat} {H H' : Hp} {done : List Int} {σ' : St} (h : sqIv a m way k H done σ' H') (hj : way = j) (hd : j ∉ done) :
    ∃ r q oth, σ' = [some (.ref a), some (.int m), some (.ref r), some (.ref q), some (.int way), some (.int (k : Int)), oth] ∧ Same H H' ∧ ∃ (as : List Addr) (rw' : List Int), Sq (fun ns => ns.length = m) H H' q as ∧ as.length = m ∧ H' r = some (.lst (rw'.map V.int)) ∧ rw'.length = m := by
  obtain ⟨r, q, oth, e, s, d⟩ := h
  refine ⟨r, q, oth, e, s, d.elim (fun ⟨x, y⟩ => y) fun ⟨x, y⟩ => ?_⟩
  rw [hj] at x; exact absurd x hd
theorem turn_map (ns : List Int) (k : Nat) : (ns.map V.int).drop k ++ (ns.map V.int).take k = (ns.drop k ++ ns.take k).map V.int := by rw [List.map_append, List.map_drop, List.map_take]
theorem turn_len {α : Type} (ns : List α) (k : Nat) : (ns.drop k ++ ns.take k).length = ns.length := by rw [List.length_append, List.length_drop, List.length_take]; omega
end R

/-! part H11 -/
set_option Elab.async false
set_option linter.all false
set_option maxRecDepth 100000
set_option maxHeartbeats 4000000
namespace R
open PySem L2 RS
/-! ### wishes that are none -/
def badW (W : List (List Int)) : Prop := ∀ n, ¬ okW W n
def lowP (ns : List Int) : Prop := ns.length ≤ 60
section
variable {p : List Int → Prop} {H0 H H' : Hp} {q a c : Addr} {as bs : List Addr} {ns : List Int}
end
/-- between the steps of _law_spoiled -/
def spIv (wq : Addr) (m : Nat) (fault cell : Int) (k : Nat) (H : Hp) (done : List Int) (σ' : St) (H' : Hp) : Prop := ∃ q, σ' = [some (.ref wq), some (.int fault), some (.int cell), some (.ref q), some (.int (k : Int)), some (.int m)] ∧
  ((fault ∉ done ∧ ∃ as : List Addr, Sq (wishP m) H H' q as ∧ as.length = 4 ∧ as.Nodup) ∨ (fault ∈ done ∧ ∃ as, Sq lowP H H' q as ∧ as.length ≤ 60 ∧ badW (valS H' as)))
theorem spIv.take {wq : Addr} {m : Nat} {fault cell j : Int} {k : Nat} {H H' : Hp} {done : List Int} {σ' : St} (h : spIv wq m fault cell k H done σ' H') (hj : fault = j) (hd : j ∉ done) :
    ∃ q, σ' = [some (.ref wq), some (.int fault), some (.int cell), some (.ref q), some (.int (k : Int)), some (.int m)] ∧ ∃ as : List Addr, Sq (wishP m) H H' q as ∧ as.length = 4 ∧ as.Nodup := by
  obtain ⟨q, e, d⟩ := h
  refine ⟨q, e, d.elim (fun ⟨x, y⟩ => y) fun ⟨x, y⟩ => ?_⟩
  rw [hj] at x; exact absurd x hd
end R

/-! part M9 -/
set_option Elab.async false
set_option linter.all false
set_option maxRecDepth 100000
set_option maxHeartbeats 4000000
namespace R
open PySem L2 RS
/-! ### all squares: the numbers -/
end R

/-! part H12 -/
set_option Elab.async false
set_option linter.all false
set_option maxRecDepth 100000
set_option maxHeartbeats 4000000
namespace R
open PySem L2 RS
/-! ### lists of squares in the heap -/
def SqsA (H : Hp) (SS : List (List (List Int))) (as : List Addr) : Prop := Paired (fun S a => SqAt H a S) SS as
def SqsAt (H : Hp) (q : Addr) (SS : List (List (List Int))) : Prop := ∃ as : List Addr, H q = some (.lst (as.map V.ref)) ∧ SqsA H SS as
theorem SqsA.same {H H' : Hp} {SS : List (List (List Int))} {as : List Addr} (h : SqsA H SS as) (s : Same H H') : SqsA H' SS as := Prd.mono (fun _ _ q => q.same s) h
theorem SqsAt.same {H H' : Hp} {q : Addr} {SS : List (List (List Int))} (h : SqsAt H q SS) (s : Same H H') : SqsAt H' q SS := let ⟨as, a, b⟩ := h; ⟨as, s _ _ a, b.same s⟩
def sqOf (H : Hp) : V → List (List Int)
  | .ref a => match H a with
    | some (.lst xs) => xs.map (rowOf H)
    | _ => []
  | _ => []
theorem rowsOf_eq {H : Hp} {S : List (List Int)} {as : List Addr} (h : RwsA H S as) : (as.map V.ref).map (rowOf H) = S := by
  unfold RwsA at h
  induction h with
  | nil => rfl
  | cons x t ih => rw [List.map_cons, List.map_cons, ih, rowOf_eq x]
theorem sqOf_eq {H : Hp} {a : Addr} {S : List (List Int)} (h : SqAt H a S) : sqOf H (.ref a) = S := by
  obtain ⟨as, e, r⟩ := h
  show (match H a with | some (.lst xs) => xs.map (rowOf H) | _ => []) = S
  rw [e]
  exact rowsOf_eq r
theorem SqsA.filter {H : Hp} {SS : List (List (List Int))} {as : List Addr} (h : SqsA H SS as) (P : List (List Int) → Bool) : ∃ bs : List Addr, (as.map V.ref).filter (fun v => P (sqOf H v)) = bs.map V.ref ∧ SqsA H (SS.filter P) bs := by
  unfold SqsA at h
  induction h with
  | nil => exact ⟨[], rfl, .nil⟩
  | cons x t ih =>
    obtain ⟨bs, e, r⟩ := ih
    rw [List.map_cons, List.filter_cons, List.filter_cons, sqOf_eq x]
    split
    · exact ⟨_ :: bs, by rw [e, List.map_cons], .cons x r⟩
    · exact ⟨bs, e, r⟩
theorem RwsA.filter {H : Hp} {S : List (List Int)} {as : List Addr} (h : RwsA H S as) (P : List Int → Bool) : ∃ bs : List Addr, (as.map V.ref).filter (fun v => P (rowOf H v)) = bs.map V.ref ∧ RwsA H (S.filter P) bs := by
  unfold RwsA at h
  induction h with
  | nil => exact ⟨[], rfl, .nil⟩
  | cons x t ih =>
    obtain ⟨bs, e, r⟩ := ih
    rw [List.map_cons, List.filter_cons, List.filter_cons, rowOf_eq x]
    split
    · exact ⟨_ :: bs, by rw [e, List.map_cons], .cons x r⟩
    · exact ⟨bs, e, r⟩
theorem SqsA.mem {H : Hp} {SS : List (List (List Int))} {as : List Addr} (h : SqsA H SS as) {x : V} (hx : x ∈ as.map V.ref) : ∃ c S, x = .ref c ∧ S ∈ SS ∧ SqAt H c S := by
  obtain ⟨c, hc, rfl⟩ := List.mem_map.mp hx
  obtain ⟨S, h1, h2⟩ := Prd.mem h c hc
  exact ⟨c, S, rfl, h1, h2⟩
theorem RwsA.mem {H : Hp} {S : List (List Int)} {as : List Addr} (h : RwsA H S as) {x : V} (hx : x ∈ as.map V.ref) : ∃ c r, x = .ref c ∧ r ∈ S ∧ H c = some (.lst (r.map V.int)) := by
  obtain ⟨c, hc, rfl⟩ := List.mem_map.mp hx
  obtain ⟨r, h1, h2⟩ := Prd.mem h c hc
  exact ⟨c, r, rfl, h1, h2⟩
/-! ### the program's defs -/
/-- in rs stands a at i, j -/
def AtS (rs : List (List Addr)) (i j : Nat) (a : Addr) : Prop := ∃ R, rs[i]? = some R ∧ R[j]? = some a
/-- a list of squares, new, no two of its lists one -/
structure Deep (H H' : Hp) (D : Addr) (SS : List (List (List Int))) (as : List Addr) (rs : List (List Addr)) : Prop where
  sq : Paired (fun R a => H' a = some (.lst (R.map V.ref))) rs as
  rw_ : Paired (fun S R => RwsA H' S R) SS rs
  na : ∀ a ∈ as, H a = none ∧ a ≠ D
  nr : ∀ R ∈ rs, ∀ a ∈ R, H a = none ∧ a ≠ D
  un : ∀ i j i' j' a, AtS rs i j a → AtS rs i' j' a → i = i' ∧ j = j'
theorem Deep.nil {H H' : Hp} {D : Addr} : Deep H H' D [] [] [] := ⟨.nil, .nil, fun _ h => (nomatch h), fun _ h => (nomatch h), fun i j i' j' a ⟨R, h, _⟩ => by simp at h⟩
theorem Deep.keep {H H' H'' : Hp} {D : Addr} {SS : List (List (List Int))} {as : List Addr} {rs : List (List Addr)} (d : Deep H H' D SS as rs) (k : ∀ b o, b ≠ D → H' b = some o → H'' b = some o) : Deep H H'' D SS as rs := by
  refine ⟨Prd.mono' (fun R a ha e => k a _ (d.na a ha).2 e) d.sq, ?_, d.na, d.nr, d.un⟩
  exact Prd.mono' (fun S R hR h => Prd.mono' (fun ns a ha e => k a _ (d.nr R hR a ha).2 e) h) d.rw_
theorem atS_snoc {rs : List (List Addr)} {R : List Addr} {i j : Nat} {a : Addr} (h : AtS (rs ++ [R]) i j a) : AtS rs i j a ∨ (i = rs.length ∧ R[j]? = some a) := by
  obtain ⟨R', h1, h2⟩ := h
  by_cases hi : i < rs.length
  · rw [List.getElem?_append_left hi] at h1
    exact .inl ⟨R', h1, h2⟩
  · have hl := (List.getElem?_eq_some_iff.mp h1).1
    rw [List.length_append, List.length_singleton] at hl
    have e : i = rs.length := by omega
    subst e
    rw [List.getElem?_concat_length] at h1
    cases h1
    exact .inr ⟨rfl, h2⟩
theorem atS_mem {rs : List (List Addr)} {i j : Nat} {a : Addr} (h : AtS rs i j a) : ∃ R ∈ rs, a ∈ R := by
  obtain ⟨R, h1, h2⟩ := h
  exact ⟨R, List.mem_of_getElem? h1, List.mem_of_getElem? h2⟩
/-- one square more -/
theorem Deep.add {H H1 H2 : Hp} {D : Addr} {SS : List (List (List Int))} {as : List Addr} {rs : List (List Addr)} {S : List (List Int)} {a : Addr} {R : List Addr} {vs : List V} (d : Deep H H1 D SS as rs) (hS : Same H H1) (hD : H1 D = some (.lst vs)) (hDn : H D = none)
    (s : Same H1 H2) (n : H1 a = none) (e : H2 a = some (.lst (R.map V.ref))) (m : Made (fun (ns : List Int) o => o = .lst (ns.map V.int)) H1 H2 a S R) : Deep H (upd H2 D (.lst (vs ++ [.ref a]))) D (SS ++ [S]) (as ++ [a]) (rs ++ [R]) := by
  have hne : a ≠ D := fun z => by rw [z, hD] at n; cases n
  have hRne : ∀ b ∈ R, b ≠ D := fun b hb z => by have := (m.new b hb).1; rw [z, hD] at this; cases this
  have k := d.keep (H'' := upd H2 D (.lst (vs ++ [.ref a]))) fun b o hb h => by rw [upd_ne hb]; exact s _ _ h
  have there : ∀ {i j : Nat} {b : Addr}, AtS rs i j b → ∃ o, H1 b = some o := fun h => by
    obtain ⟨R', hR', hb⟩ := atS_mem h
    obtain ⟨S', _, h'⟩ := Prd.mem d.rw_ R' hR'
    obtain ⟨ns, _, e'⟩ := Prd.mem h' _ hb
    exact ⟨_, e'⟩
  refine ⟨Paired.snoc k.sq (by rw [upd_ne hne]; exact e), Paired.snoc k.rw_ ?_, fun b hb => ?_, fun R' hR' b hb => ?_, fun i j i' j' b h h' => ?_⟩
  · refine Prd.mono' (fun ns b hb ⟨o, ho, t⟩ => ?_) m.pr
    rw [upd_ne (hRne b hb), ho, t]
  · rcases List.mem_append.mp hb with hb | hb
    · exact d.na b hb
    · have : b = a := by simpa using hb
      subst this
      exact ⟨hS.free n, hne⟩
  · rcases List.mem_append.mp hR' with hR' | hR'
    · exact d.nr R' hR' b hb
    · have : R' = R := by simpa using hR'
      subst this
      exact ⟨hS.free (m.new b hb).1, hRne b hb⟩
  · rcases atS_snoc h with h | ⟨e1, h⟩
    · rcases atS_snoc h' with h' | ⟨e2, h'⟩
      · exact d.un i j i' j' b h h'
      · obtain ⟨o, ho⟩ := there h
        have := (m.new b (List.mem_of_getElem? h')).1
        rw [ho] at this; cases this
    · rcases atS_snoc h' with h' | ⟨e2, h'⟩
      · obtain ⟨o, ho⟩ := there h'
        have := (m.new b (List.mem_of_getElem? h)).1
        rw [ho] at this; cases this
      · exact ⟨by omega, one_ix m.nd h h'⟩
/-! ### lists of squares compared -/
abbrev sqsD (SS : List (List (List Int))) : PyData := .list (SS.map rowsD)
theorem SqAt.dv {K : PySem.W.Frag} {H : Hp} {a : Addr} {S : List (List Int)} (h : SqAt H a S) : Dv K H (.ref a) (rowsD S) := let ⟨as, e, r⟩ := h; .list (SqL.of e) (dvs_rows r)
theorem dvs_sqs {K : PySem.W.Frag} {H : Hp} {SS : List (List (List Int))} {as : List Addr} (h : SqsA H SS as) : Dvs K H (as.map V.ref) (SS.map rowsD) := by
  unfold SqsA at h
  induction h with
  | nil => exact .nil
  | cons x t ih => exact .cons x.dv ih
theorem SqsAt.dv {K : PySem.W.Frag} {H : Hp} {a : Addr} {SS : List (List (List Int))} (h : SqsAt H a SS) : Dv K H (.ref a) (sqsD SS) := let ⟨as, e, r⟩ := h; .list (SqL.of e) (dvs_sqs r)
end R

/-! part H13 -/
set_option Elab.async false
set_option linter.all false
set_option maxRecDepth 100000
set_option maxHeartbeats 4000000
namespace R
open PySem L2 RS
/-- squares new, their rows of H0 -/
def SqsE (H0 : Hp) (p : Addr) (H : Hp) (SS : List (List (List Int))) (as : List Addr) : Prop := Paired (fun S a => a ≠ p ∧ ∃ R : List Addr, H a = some (.lst (R.map V.ref)) ∧ RwsA H0 S R) SS as
theorem SqsE.same {H0 : Hp} {p : Addr} {H H' : Hp} {SS : List (List (List Int))} {as : List Addr} (h : SqsE H0 p H SS as) (s : Same H H') : SqsE H0 p H' SS as := Prd.mono (fun _ _ ⟨x, R, e, r⟩ => ⟨x, R, s _ _ e, r⟩) h
theorem SqsE.upd {H0 : Hp} {p : Addr} {H : Hp} {SS : List (List (List Int))} {as : List Addr} {o : HO} (h : SqsE H0 p H SS as) : SqsE H0 p (upd H p o) SS as := Prd.mono (fun _ _ ⟨x, R, e, r⟩ => ⟨x, R, by rw [upd_ne x]; exact e, r⟩) h
theorem SqsE.of_made {α : Type} {H0 H H' : Hp} {D p : Addr} {xs : List α} {as : List Addr} {g : α → List (List Int)} (m : Made (fun (x : α) o => ∃ R : List Addr, o = .lst (R.map V.ref) ∧ RwsA H0 (g x) R) H H' D xs as) (hp : ∃ o, H p = some o) : SqsE H0 p H' (xs.map g) as := by
  obtain ⟨o, hp⟩ := hp
  have : ∀ {xs : List α} {as : List Addr}, (∀ a ∈ as, a ≠ p) → Paired (fun x a => ∃ o, H' a = some o ∧ ∃ R : List Addr, o = .lst (R.map V.ref) ∧ RwsA H0 (g x) R) xs as → SqsE H0 p H' (xs.map g) as := by
    intro xs as hne h
    induction h with
    | nil => exact .nil
    | cons x t ih =>
      obtain ⟨o, e, R, rfl, r⟩ := x
      exact .cons ⟨hne _ (by simp), R, e, r⟩ (ih fun a ha => hne a (by simp [ha]))
  exact this (fun a ha z => by have := (m.new a ha).1; rw [z, hp] at this; cases this) m.pr
theorem Deep.down {H0 H H' : Hp} {D : Addr} {SS : List (List (List Int))} {as : List Addr} {rs : List (List Addr)} (d : Deep H H' D SS as rs) (s : Same H0 H) : Deep H0 H' D SS as rs := ⟨d.sq, d.rw_, fun a ha => ⟨s.free (d.na a ha).1, (d.na a ha).2⟩, fun R hR a ha => ⟨s.free (d.nr R hR a ha).1, (d.nr R hR a ha).2⟩, d.un⟩
/-! ### rows made longer in place -/
structure Mut (Hb H : Hp) (r : Addr) (as : List Addr) (rs : List (List Addr)) (m : Nat) (c : Nat → Nat → Bool) : Prop where
  same : Same Hb H
  top : H r = some (.lst (as.map V.ref))
  sq : Paired (fun R a => H a = some (.lst (R.map V.ref))) rs as
  row : ∀ i j b, AtS rs i j b → ∃ ns : List Int, H b = some (.lst (ns.map V.int)) ∧ ns.length = if c i j = true then m + 1 else m
theorem ref_int {R : List Addr} {ns : List Int} (h : R ≠ []) : R.map V.ref ≠ ns.map V.int := by
  cases R with
  | nil => exact absurd rfl h
  | cons a l =>
    cases ns with
    | nil => intro z; cases z
    | cons n t => intro z; rw [List.map_cons, List.map_cons] at z; injection z with z _; cases z
theorem Mut.grow {Hb H H' : Hp} {r : Addr} {as : List Addr} {rs : List (List Addr)} {m : Nat} {c : Nat → Nat → Bool} (h : Mut Hb H r as rs m c) (s : Same H H') : Mut Hb H' r as rs m c := ⟨h.same.trans s, s _ _ h.top, Prd.mono (fun _ _ z => s _ _ z) h.sq, fun i j b hb => let ⟨ns, e, l⟩ := h.row i j b hb; ⟨ns, s _ _ e, l⟩⟩
theorem Mut.step {Hb H : Hp} {r : Addr} {as : List Addr} {rs : List (List Addr)} {m : Nat} {c c' : Nat → Nat → Bool} {i j : Nat} {b : Addr} {ns : List Int} (h : Mut Hb H r as rs m c) (hun : ∀ i j i' j' a, AtS rs i j a → AtS rs i' j' a → i = i' ∧ j = j') (hnr : Hb b = none ∧ b ≠ r) (hR : ∀ R ∈ rs, R ≠ []) (ha : AtS rs i j b) (e : H b = some (.lst (ns.map V.int))) (hl : ns.length = m)
    (hc : c' i j = true) (hc2 : ∀ i' j', (i' ≠ i ∨ j' ≠ j) → c' i' j' = c i' j') : Mut Hb (upd H b (.lst (ns.map V.int ++ [.int 0]))) r as rs m c' := by
  refine ⟨same_new h.same hnr.1, by rw [upd_ne (Ne.symm hnr.2)]; exact h.top, ?_, fun i' j' b' hb' => ?_⟩
  · have : ∀ {rs : List (List Addr)} {as : List Addr}, (∀ R ∈ rs, R ≠ []) → Paired (fun R a => H a = some (.lst (R.map V.ref))) rs as → Paired (fun R a => upd H b (.lst (ns.map V.int ++ [.int 0])) a = some (.lst (R.map V.ref))) rs as := by
      intro rs as hR p
      induction p with
      | nil => exact .nil
      | cons x t ih =>
        refine .cons ?_ (ih fun R h => hR R (by simp [h]))
        rw [upd_ne (fun z => by
          rw [z, e] at x
          injection x with x
          injection x with x
          exact ref_int (hR _ (by simp)) x.symm)]
        exact x
    exact this hR h.sq
  · obtain ⟨ns', e', l'⟩ := h.row i' j' b' hb'
    by_cases hb : b' = b
    · subst hb
      obtain ⟨rfl, rfl⟩ := hun _ _ _ _ _ hb' ha
      refine ⟨ns ++ [0], by rw [upd_same, List.map_append]; rfl, ?_⟩
      rw [hc, if_pos rfl, List.length_append, hl]; rfl
    · refine ⟨ns', by rw [upd_ne hb]; exact e', ?_⟩
      rw [l', hc2 i' j' ?_]
      by_cases h1 : i' = i
      · refine .inr fun h2 => hb ?_
        subst h1; subst h2
        obtain ⟨R1, a1, a2⟩ := hb'
        obtain ⟨R2, b1, b2⟩ := ha
        rw [a1] at b1
        cases b1
        rw [a2] at b2
        exact Option.some.inj b2
      · exact .inl h1
def before (i j i' j' : Nat) : Bool := decide (i' < i ∨ (i' = i ∧ j' < j))
theorem Mut.next {Hb H : Hp} {r : Addr} {as : List Addr} {rs : List (List Addr)} {m i : Nat} (h : Mut Hb H r as rs m (before i m)) (hR : ∀ R ∈ rs, R.length = m) : Mut Hb H r as rs m (before (i + 1) 0) := ⟨h.same, h.top, h.sq, fun i' j' b hb => by
  obtain ⟨ns, e, l⟩ := h.row i' j' b hb
  refine ⟨ns, e, ?_⟩
  rw [l]
  have hj : j' < m := by
    obtain ⟨R, h1, h2⟩ := hb
    have := hR R (List.mem_of_getElem? h1)
    have := (List.getElem?_eq_some_iff.mp h2).1
    omega
  have : before i m i' j' = before (i + 1) 0 i' j' := by unfold before; rw [decide_eq_decide]; omega
  rw [this]⟩
end R

/-! part H14 -/
set_option Elab.async false
set_option linter.all false
set_option maxRecDepth 100000
set_option maxHeartbeats 4000000
namespace R
open PySem L2 RS
open PyProof.Rows (sortedAll_at sortedAll_old seqObj)
/-! ### sorted, of rings -/
def hdI (r : List Int) : Int := r.headD 0
theorem pr_picks {α β : Type} {F : α → β → Prop} {l : List α} {m : List β} (h : Paired F l m) (a0 : α) (b0 : β) : ∀ (q : List Nat), (∀ i ∈ q, i < l.length) → Paired F (q.map fun i => l.getD i a0) (q.map fun i => m.getD i b0)
  | [], _ => .nil
  | i :: q, hq => by
    refine .cons ?_ (pr_picks h a0 b0 q fun j hj => hq j (by simp [hj]))
    have hi := hq i (by simp)
    have hl := Prd.len h
    obtain ⟨b, e1, e2⟩ := Prd.getL h (List.getElem?_eq_getElem hi)
    show F (l.getD i a0) (m.getD i b0)
    rw [List.getD_eq_getElem?_getD, List.getD_eq_getElem?_getD, List.getElem?_eq_getElem hi, e1]
    exact e2
theorem picks_range {α : Type} (l : List α) (a0 : α) : (List.range l.length).map (fun i => l.getD i a0) = l := by
  apply List.ext_getElem
  · simp
  · intro i h1 h2
    simp [h2]
section
variable {X : Cx} {e : Expr} {σ : St} {H : Hp} {Q : VK} {pos p : Pos}
theorem call_sortedL (hu : X.A.units + 8 < cLine) : CallR X (.builtin "sorted") (fun xs H Q => ∃ (p : Addr) (bs : List Addr) (S : List (List Int)), xs = [.ref p] ∧ H p = some (.lst (bs.map V.ref)) ∧ RwsA H S bs ∧ (∀ r ∈ S, r ≠ []) ∧ (S.map hdI).Nodup ∧ S.length < 64 ∧
    ∀ (l : Addr) (bs' : List Addr) (S' : List (List Int)), H l = none → S'.Perm S → (S'.map hdI).Pairwise (· < ·) → RwsA H S' bs' → Q (.ref l) (upd H l (.lst (bs'.map V.ref)))) := by
  intro pins s σ H xs us Q I r h
  obtain ⟨p, bs, S, rfl, hp, hR, hne, hnd, hz, q⟩ := h
  obtain ⟨u, rfl, rx⟩ := vals1 r
  cases rx
  obtain ⟨zl, its, n, rv, hl, ep⟩ := I.lstM hp
  have hlen := Prd.len hR
  have hvl : its.length = S.length := by rw [← hl, List.length_map]; omega
  have hget : ∀ i, i < S.length → ∃ b, bs[i]? = some b ∧ its[i]? = some (.ref b) ∧ H b = some (.lst ((S.getD i []).map V.int)) := fun i hi => by
    obtain ⟨b, e1, e2⟩ := hR.nth hi
    obtain ⟨u, e3, e4⟩ := Vals.get rv (i := i) (x := .ref b) (by rw [List.getElem?_map, e1]; rfl)
    cases e4
    exact ⟨b, e1, e3, e2⟩
  have L : Lsts s.heap (fun i => hdI (S.getD i [])) its := fun i hi => by
    obtain ⟨b, e1, e2, e3⟩ := hget i (by omega)
    obtain ⟨_, js, m, rj, _, ej⟩ := I.lstM e3
    refine ⟨b, js, m, S.getD i [], e2, ej, intsAre_of rj, ?_⟩
    have hm : S.getD i [] ∈ S := by rw [List.getD_eq_getElem?_getD, List.getElem?_eq_getElem (by omega)]; exact List.getElem_mem _
    have := hne _ hm
    show (S.getD i []).head? = some (hdI (S.getD i []))
    generalize S.getD i [] = r at this
    cases r with
    | nil => exact absurd rfl this
    | cons x l => rfl
  have hk : Inj its.length (fun i => hdI (S.getD i [])) := fun i j hi hj e => by
    rw [hvl] at hi hj
    have e : hdI (S.getD i []) = hdI (S.getD j []) := e
    have e1 : (S.map hdI)[i]? = some (hdI (S.getD i [])) := by rw [List.getElem?_map, List.getD_eq_getElem?_getD, List.getElem?_eq_getElem hi]; rfl
    have e2 : (S.map hdI)[j]? = some (hdI (S.getD j [])) := by rw [List.getElem?_map, List.getD_eq_getElem?_getD, List.getElem?_eq_getElem hj]; rfl
    rw [e, ← e2] at e1
    exact (List.getElem?_inj (by rw [List.length_map]; exact hi) hnd).mp e1
  refine sorted_lists (s := s) (vs := its) (ky := fun i => hdI (S.getD i [])) (by omega) ⟨_, ep, rfl, _, rfl⟩ (by omega) hk L fun a h1 h2 => ?_
  have hmem : ∀ i ∈ a.toList, i < S.length := fun i hi => by have := List.mem_range.mp (h1.subset hi); omega
  obtain ⟨e', he⟩ := sortedAll_at s.heap its (List.toArray (a.toList.map fun i => its.getD i Value.none))
  have hn : H (s.heap.objs.size + 1) = none := I.hok.fresh (Nat.le_succ _)
  have hRp := pr_picks hR [] 0 a.toList hmem
  have hsz := h1.size
  refine ⟨.ref (s.heap.objs.size + 1), _, I.laid (t' := s.toks) (a := s.heap.objs.size + 1) (o := .lst ((a.toList.map fun i => bs.getD i 0).map V.ref)) (fun b o => sortedAll_old) (Nat.le_succ _) ⟨?_, (a.toList.map fun i => its.getD i Value.none), e', ?_, by simpa [seqObj] using he⟩, rfl, q _ _ (a.toList.map fun i => S.getD i []) hn ?_ ?_ hRp⟩
  · rw [List.length_map, List.length_map, Array.length_toList, hsz]
    exact Nat.le_of_lt (small1000 (by omega))
  · have : ∀ q : List Nat, (∀ i ∈ q, i < S.length) → Vals ((q.map fun i => bs.getD i 0).map V.ref) (q.map fun i => its.getD i Value.none) := by
      intro q
      induction q with
      | nil => exact fun _ => .nil
      | cons i q ih =>
        intro hq
        obtain ⟨b, e1, e2, _⟩ := hget i (hq i (by simp))
        refine .cons ?_ (ih fun j hj => hq j (by simp [hj]))
        show RelV (.ref (bs.getD i 0)) (its.getD i Value.none)
        rw [List.getD_eq_getElem?_getD, List.getD_eq_getElem?_getD, e1, e2]
        exact rfl
    exact this _ hmem
  · have := h1.map fun i => S.getD i []
    rw [hvl, picks_range] at this
    exact this
  · rw [List.map_map]
    refine List.pairwise_iff_getElem.mpr fun i j hi hj hij => ?_
    rw [List.length_map, Array.length_toList, hsz] at hi hj
    have := h2 i j hij hj
    have g : ∀ i (h : i < a.size), a.getD i 0 = a.toList[i]'(by simpa using h) := fun i h => by rw [Array.getD, dif_pos h]; simp
    rw [List.getElem_map, List.getElem_map]
    show hdI (S.getD _ []) < hdI (S.getD _ [])
    rw [← g i (by omega), ← g j (by omega)]
    exact this
theorem we_sortedL (hu : X.A.units + 8 < cLine) (hm : X.mg "sorted" = none) (q : WE X e σ H fun x H1 => ∃ (p : Addr) (bs : List Addr) (S : List (List Int)), x = .ref p ∧ H1 p = some (.lst (bs.map V.ref)) ∧ RwsA H1 S bs ∧ (∀ r ∈ S, r ≠ []) ∧ (S.map hdI).Nodup ∧ S.length < 64 ∧
    ∀ (l : Addr) (bs' : List Addr) (S' : List (List Int)), H1 l = none → S'.Perm S → (S'.map hdI).Pairwise (· < ·) → RwsA H1 S' bs' → Q (.ref l) (upd H1 l (.lst (bs'.map V.ref)))) (hg : Gl X "sorted" := by rfl)
    (he : starEach [e] X.env = (false, eval e X.env) :: starEach [] X.env := by rfl) : WE X (.Call (.Name "sorted" p) [e] [] pos) σ H Q :=
  we_callB (call_sortedL hu) hm bt_sorted (wa_cons (WE.mono q fun x H1 ⟨p, bs, S, e, k⟩ => wa_nil ⟨p, bs, S, by rw [e], k⟩) he) hg (he := he)
end
end R

/-! part M11 -/
set_option Elab.async false
set_option linter.all false
set_option maxRecDepth 100000
set_option maxHeartbeats 4000000
namespace R
open PySem L2 RS
/-! ### rings: the numbers -/
theorem snoc_ind {α : Type} {P : List α → Prop} (h0 : P []) (h1 : ∀ l x, P l → P (l ++ [x])) (l : List α) : P l := by
  have : ∀ m : List α, P m.reverse := by
    intro m
    induction m with
    | nil => exact h0
    | cons x m ih => rw [List.reverse_cons]; exact h1 _ _ ih
  have h := this l.reverse
  rw [List.reverse_reverse] at h
  exact h
theorem seen_snoc (ns : List Int) (x : Int) : seenF (ns ++ [x]) = seenF ns ++ (if (ns.all fun h => decide (h < x)) = true then [ns.length] else []) := by
  unfold seenF
  rw [List.length_append, List.length_singleton, List.range_succ, List.filter_append]
  congr 1
  · refine List.filter_congr fun p hp => ?_
    have hp := List.mem_range.mp hp
    rw [List.take_append_of_le_length (Nat.le_of_lt hp), List.getD_eq_getElem?_getD, List.getD_eq_getElem?_getD, List.getElem?_append_left hp]
  · rw [List.filter_cons, List.take_left, List.getD_eq_getElem?_getD, List.getElem?_concat_length]
    rfl
theorem seen_bd {ns : List Int} {p : Nat} (h : p ∈ seenF ns) : p < ns.length := by unfold seenF at h; exact List.mem_range.mp (List.mem_filter.mp h).1
theorem seen_ne {ns : List Int} (h : ns ≠ []) : seenF ns ≠ [] := by
  cases ns with
  | nil => exact absurd rfl h
  | cons x l =>
    intro z
    have : (0 : Nat) ∈ seenF (x :: l) := by
      unfold seenF
      exact List.mem_filter.mpr ⟨List.mem_range.mpr (by simp), by simp⟩
    rw [z] at this; cases this
theorem cut_same {ns : List Int} {x : Int} {u v : Nat} (hv : v ≤ ns.length) : ((ns ++ [x]).drop u).take (v - u) = (ns.drop u).take (v - u) := by
  by_cases hu : u ≤ ns.length
  · rw [List.drop_append_of_le_length hu, List.take_append_of_le_length (by rw [List.length_drop]; omega)]
  · rw [show v - u = 0 by omega, List.take_zero, List.take_zero]
theorem cuts_seen {ns : List Int} {x : Int} (h : (ns.all fun h => decide (h < x)) = true) : cutsF (ns ++ [x]) = cutsF ns ++ [[x]] := by
  unfold cutsF
  rw [seen_snoc, if_pos h, List.length_append, List.length_singleton]
  have hb := fun p hp => @seen_bd ns p hp
  have hne : seenF ns = [] → ns = [] := fun z => by
    cases ns with
    | nil => rfl
    | cons y l => exact absurd z (seen_ne (by simp))
  generalize seenF ns = st at hb hne
  cases st with
  | nil =>
    have := hne rfl
    subst this
    rfl
  | cons s t =>
    have e : (s :: t ++ [ns.length]).drop 1 ++ [ns.length + 1] = (t ++ [ns.length]) ++ [ns.length + 1] := rfl
    have e' : (s :: t).drop 1 ++ [ns.length] = t ++ [ns.length] := rfl
    rw [e, e', List.zip_append (by simp), List.map_append]
    congr 1
    · refine List.map_congr_left fun p hp => ?_
      obtain ⟨u, v⟩ := p
      refine cut_same ?_
      have := (List.of_mem_zip hp).2
      rcases List.mem_append.mp this with z | z
      · exact Nat.le_of_lt (hb v (by simp [z]))
      · have : v = ns.length := by simpa using z
        omega
    · show [((ns ++ [x]).drop ns.length).take (ns.length + 1 - ns.length)] = [[x]]
      rw [List.drop_left, show ns.length + 1 - ns.length = 1 by omega]; rfl
theorem cuts_not {ns : List Int} {x : Int} (h : (ns.all fun h => decide (h < x)) = false) : ∃ U v, cutsF ns = U ++ [v] ∧ cutsF (ns ++ [x]) = U ++ [v ++ [x]] := by
  have hns : ns ≠ [] := fun z => by rw [z] at h; cases h
  unfold cutsF
  rw [seen_snoc, if_neg (by rw [h]; decide), List.append_nil, List.length_append, List.length_singleton]
  have hb := fun p hp => @seen_bd ns p hp
  have hne := seen_ne hns
  generalize seenF ns = st at hb hne
  obtain ⟨A, l, rfl⟩ : ∃ A l, st = A ++ [l] := ⟨st.dropLast, st.getLast hne, (List.dropLast_concat_getLast hne).symm⟩
  have hB : ((A ++ [l]).drop 1).length = A.length := by rw [List.length_drop, List.length_append, List.length_singleton]; omega
  have hBm : ∀ v ∈ (A ++ [l]).drop 1, v ≤ ns.length := fun v hv => Nat.le_of_lt (hb v (List.mem_of_mem_drop hv))
  have hl : l < ns.length := hb l (by simp)
  generalize (A ++ [l]).drop 1 = B at hB hBm
  rw [List.zip_append hB.symm, List.zip_append hB.symm, List.map_append, List.map_append]
  refine ⟨_, (ns.drop l).take (ns.length - l), rfl, ?_⟩
  congr 1
  · refine List.map_congr_left fun p hp => ?_
    obtain ⟨u, v⟩ := p
    exact cut_same (hBm v (List.of_mem_zip hp).2)
  · show [((ns ++ [x]).drop l).take (ns.length + 1 - l)] = _
    rw [List.drop_append_of_le_length (Nat.le_of_lt hl), List.take_of_length_le (by rw [List.length_append, List.length_drop, List.length_singleton]; omega), List.take_of_length_le (l := ns.drop l) (by rw [List.length_drop]; omega)]
structure Cut (ns : List Int) (S : List (List Int)) : Prop where
  flat : S.flatten = ns
  ne : ∀ r ∈ S, r ≠ []
  hd : ∀ r ∈ S, ∀ y ∈ r, y ≤ hdI r
  up : (S.map hdI).Pairwise (· < ·)
  last : ∀ y ∈ ns, y ≤ hdI (S.getLastD [])
theorem hd_mem {r : List Int} (h : r ≠ []) : hdI r ∈ r := by
  cases r with
  | nil => exact absurd rfl h
  | cons x l => simp [hdI]
theorem cuts_good (ns : List Int) : Cut ns (cutsF ns) := by
  refine snoc_ind (P := fun ns => Cut ns (cutsF ns)) ?_ (fun l x ih => ?_) ns
  · exact ⟨rfl, fun _ h => (nomatch h), fun _ h => (nomatch h), List.Pairwise.nil, fun _ h => (nomatch h)⟩
  · cases h : (l.all fun h => decide (h < x)) with
    | true =>
      rw [cuts_seen h]
      have hall : ∀ y ∈ l, y < x := fun y hy => of_decide_eq_true (List.all_eq_true.mp h y hy)
      refine ⟨by rw [List.flatten_append, ih.flat]; simp, fun r hr => ?_, fun r hr y hy => ?_, ?_, fun y hy => ?_⟩
      · rcases List.mem_append.mp hr with hr | hr
        · exact ih.ne r hr
        · have : r = [x] := by simpa using hr
          rw [this]; simp
      · rcases List.mem_append.mp hr with hr | hr
        · exact ih.hd r hr y hy
        · have : r = [x] := by simpa using hr
          subst this
          have : y = x := by simpa using hy
          rw [this]; exact Int.le_refl _
      · rw [List.map_append]
        refine List.pairwise_append.mpr ⟨ih.up, by simp, fun a ha b hb => ?_⟩
        obtain ⟨r, hr, rfl⟩ := List.mem_map.mp ha
        have : b = x := by simpa [hdI] using hb
        subst this
        refine hall _ ?_
        rw [← ih.flat]
        exact List.mem_flatten.mpr ⟨r, hr, hd_mem (ih.ne r hr)⟩
      · rw [List.getLastD_eq_getLast?, List.getLast?_concat]
        show y ≤ x
        rcases List.mem_append.mp hy with hy | hy
        · exact Int.le_of_lt (hall y hy)
        · have : y = x := by simpa using hy
          rw [this]; exact Int.le_refl _
    | false =>
      obtain ⟨U, v, e1, e2⟩ := cuts_not h
      rw [e1] at ih
      rw [e2]
      have hvn := ih.ne v (by simp)
      have hh : hdI (v ++ [x]) = hdI v := by
        cases v with
        | nil => exact absurd rfl hvn
        | cons a b => rfl
      have hlast : (U ++ [v]).getLastD [] = v := by rw [List.getLastD_eq_getLast?, List.getLast?_concat]; rfl
      have hx : x ≤ hdI v := by
        obtain ⟨y, hy, hyx⟩ : ∃ y ∈ l, ¬ y < x := by
          have := h
          rw [List.all_eq_false] at this
          obtain ⟨y, hy, hyx⟩ := this
          exact ⟨y, hy, by simpa using hyx⟩
        have := ih.last y hy
        rw [hlast] at this
        omega
      refine ⟨by rw [List.flatten_append, ← ih.flat, List.flatten_append]; simp, fun r hr => ?_, fun r hr y hy => ?_, ?_, fun y hy => ?_⟩
      · rcases List.mem_append.mp hr with hr | hr
        · exact ih.ne r (by simp [hr])
        · have : r = v ++ [x] := by simpa using hr
          rw [this]; simp
      · rcases List.mem_append.mp hr with hr | hr
        · exact ih.hd r (by simp [hr]) y hy
        · have : r = v ++ [x] := by simpa using hr
          subst this
          rw [hh]
          rcases List.mem_append.mp hy with hy | hy
          · exact ih.hd v (by simp) y hy
          · have : y = x := by simpa using hy
            rw [this]; exact hx
      · have := ih.up
        rw [List.map_append] at this ⊢
        rw [List.map_cons, hh]; exact this
      · rw [List.getLastD_eq_getLast?, List.getLast?_concat]
        show y ≤ hdI (v ++ [x])
        rw [hh]
        rcases List.mem_append.mp hy with hy | hy
        · have := ih.last y hy
          rw [hlast] at this; exact this
        · have : y = x := by simpa using hy
          rw [this]; exact hx
/-! ### one order of rings by their first ones -/
theorem rings_one : ∀ {S T : List (List Int)}, S.Perm T → (S.map hdI).Pairwise (· < ·) → (T.map hdI).Pairwise (· < ·) → S = T
  | [], T, hp, _, _ => by rw [hp.symm.eq_nil]
  | s :: S, [], hp, _, _ => absurd hp.eq_nil (by simp)
  | s :: S, t :: T, hp, hS, hT => by
    have hS' := List.pairwise_cons.mp hS
    have hT' := List.pairwise_cons.mp hT
    have e : s = t := by
      have h1 : s ∈ t :: T := hp.subset (by simp)
      have h2 : t ∈ s :: S := hp.symm.subset (by simp)
      rcases List.mem_cons.mp h1 with h1 | h1
      · exact h1
      · rcases List.mem_cons.mp h2 with h2 | h2
        · exact h2.symm
        · have a := hS'.1 (hdI t) (List.mem_map.mpr ⟨t, h2, rfl⟩)
          have b := hT'.1 (hdI s) (List.mem_map.mpr ⟨s, h1, rfl⟩)
          omega
    subst e
    rw [rings_one (hp.cons_inv) hS'.2 hT'.2]
/-! ### begun at the greatest -/
def mxI : List Int → Int
  | [] => 0
  | x :: l => l.foldl max x
def begF (r : List Int) : List Int := r.drop (r.findIdx fun x => decide (x = mxI r)) ++ r.take (r.findIdx fun x => decide (x = mxI r))
theorem fold_max : ∀ (l : List Int) (x : Int), x ≤ l.foldl max x ∧ (∀ y ∈ l, y ≤ l.foldl max x) ∧ (l.foldl max x = x ∨ l.foldl max x ∈ l)
  | [], x => ⟨Int.le_refl _, fun _ h => (nomatch h), .inl rfl⟩
  | z :: l, x => by
    obtain ⟨a, b, c⟩ := fold_max l (max x z)
    rw [List.foldl_cons]
    refine ⟨by omega, fun y hy => ?_, ?_⟩
    · rcases List.mem_cons.mp hy with rfl | hy
      · omega
      · exact b y hy
    · rcases c with c | c
      · by_cases h : x ≤ z
        · right; rw [c, show max x z = z by omega]; simp
        · left; rw [c]; omega
      · right; simp [c]
theorem mx_mem {r : List Int} (h : r ≠ []) : mxI r ∈ r := by
  cases r with
  | nil => exact absurd rfl h
  | cons x l =>
    rcases (fold_max l x).2.2 with z | z
    · show l.foldl max x ∈ _
      rw [z]; simp
    · exact List.mem_cons_of_mem _ z
theorem mx_ge {r : List Int} {y : Int} (h : y ∈ r) : y ≤ mxI r := by
  cases r with
  | nil => cases h
  | cons x l =>
    rcases List.mem_cons.mp h with rfl | h
    · exact (fold_max l y).1
    · exact (fold_max l x).2.1 y h
theorem beg_perm (r : List Int) : (begF r).Perm r := by
  unfold begF
  exact (List.perm_append_comm).trans (by rw [List.take_append_drop])
theorem find_mx {r : List Int} (h : r ≠ []) : (r.findIdx fun x => decide (x = mxI r)) < r.length := List.findIdx_lt_length_of_exists ⟨mxI r, mx_mem h, by simp⟩
theorem beg_hd {r : List Int} (h : r ≠ []) : hdI (begF r) = mxI r := by
  unfold begF
  have hk := find_mx h
  have e := List.findIdx_getElem (w := hk)
  generalize (r.findIdx fun x => decide (x = mxI r)) = k at hk e
  rw [List.drop_eq_getElem_cons hk]
  show r[k] = mxI r
  simpa using e
theorem beg_turn {A B : List Int} {h : Int} (hA : h ∉ A) (hm : ∀ y ∈ A ++ h :: B, y ≤ h) : begF (A ++ h :: B) = h :: B ++ A := by
  have em : mxI (A ++ h :: B) = h := Int.le_antisymm (hm _ (mx_mem (by simp))) (mx_ge (by simp))
  have ei : ((A ++ h :: B).findIdx fun x => decide (x = mxI (A ++ h :: B))) = A.length := by
    rw [em]
    rw [List.findIdx_append, if_neg]
    · rw [List.findIdx_cons]; simp
    · intro z
      have e := List.findIdx_getElem (w := z)
      have : A[A.findIdx fun x => decide (x = h)] = h := by simpa using e
      exact hA (this ▸ List.getElem_mem _)
  unfold begF
  rw [ei, List.drop_left, List.take_left]
theorem beg_of_turn {r : List Int} {k : Nat} (hne : r ≠ []) (hm : ∀ y ∈ r, y ≤ hdI r) (hnd : r.Nodup) : begF (r.drop k ++ r.take k) = r := by
  cases r with
  | nil => exact absurd rfl hne
  | cons h l =>
    have hm : ∀ y ∈ h :: l, y ≤ h := hm
    cases k with
    | zero =>
      rw [List.drop_zero, List.take_zero, List.append_nil]
      have := beg_turn (A := []) (B := l) (h := h) (by simp) hm
      simpa using this
    | succ k =>
      rw [List.drop_succ_cons, List.take_succ_cons]
      have hh := (List.nodup_cons.mp hnd).1
      rw [beg_turn (fun z => hh (List.mem_of_mem_drop z)) fun y hy => ?_]
      · rw [List.cons_append, List.take_append_drop]
      · refine hm y ?_
        rcases List.mem_append.mp hy with hy | hy
        · exact List.mem_cons_of_mem _ (List.mem_of_mem_drop hy)
        · rcases List.mem_cons.mp hy with hy | hy
          · simp [hy]
          · exact List.mem_cons_of_mem _ (List.mem_of_mem_take hy)
theorem heads_nodup {f : List Int → Int} : ∀ {S : List (List Int)}, S.flatten.Nodup → (∀ r ∈ S, f r ∈ r) → (S.map f).Nodup
  | [], _, _ => List.nodup_nil
  | r :: S, hn, hf => by
    rw [List.flatten_cons] at hn
    obtain ⟨h1, h2, h3⟩ := List.nodup_append.mp hn
    refine List.nodup_cons.mpr ⟨fun z => ?_, heads_nodup h2 fun r hr => hf r (by simp [hr])⟩
    obtain ⟨r', hr', e⟩ := List.mem_map.mp z
    have := hf r' (by simp [hr'])
    rw [e] at this
    exact h3 _ (hf r (by simp)) _ (List.mem_flatten.mpr ⟨r', hr', this⟩) rfl
theorem flat_count : ∀ {S : List (List Int)}, (∀ r ∈ S, r ≠ []) → S.length ≤ S.flatten.length
  | [], _ => Nat.le_refl _
  | r :: S, h => by
    have := flat_count (S := S) fun r hr => h r (by simp [hr])
    have h1 : 0 < r.length := List.length_pos_iff.mpr (h r (by simp))
    rw [List.flatten_cons, List.length_append, List.length_cons]; omega
theorem flat_le {S : List (List Int)} {r : List Int} (h : r ∈ S) : r.length ≤ S.flatten.length := (List.sublist_flatten_of_mem h).length_le
theorem flat_nodup {S : List (List Int)} {r : List Int} (h : r ∈ S) (hn : S.flatten.Nodup) : r.Nodup := hn.sublist (List.sublist_flatten_of_mem h)
theorem flat_map_perm {f : List Int → List Int} (hf : ∀ r, (f r).Perm r) : ∀ S : List (List Int), (S.map f).flatten.Perm S.flatten
  | [] => List.Perm.refl _
  | r :: S => by rw [List.map_cons, List.flatten_cons, List.flatten_cons]; exact (hf r).append (flat_map_perm hf S)
end R

/-! part H15 -/
set_option Elab.async false
set_option linter.all false
set_option maxRecDepth 100000
set_option maxHeartbeats 4000000
namespace R
open PySem L2 RS
/-! ### rings -/
def okRg (S : List (List Int)) (m : Nat) : Prop := (∀ r ∈ S, r ≠ []) ∧ S.flatten.Perm (whole m) ∧ 1 ≤ m ∧ m ≤ 30
theorem okRg.len {S : List (List Int)} {m : Nat} (h : okRg S m) : S.flatten.length = m := by rw [h.2.1.length_eq, whole_length]
theorem okRg.nodup {S : List (List Int)} {m : Nat} (h : okRg S m) : S.flatten.Nodup := nodup_of_perm h.2.1 (whole_nodup m)
theorem okRg.few {S : List (List Int)} {m : Nat} (h : okRg S m) : S.length ≤ m := by have := flat_count h.1; rw [h.len] at this; exact this
theorem okRg.row {S : List (List Int)} {m : Nat} (h : okRg S m) {r : List Int} (hr : r ∈ S) : r.length ≤ m := by have := flat_le hr; rw [h.len] at this; exact this
def spJoin : Sp := fun vs H Q _ => ∃ (q : Addr) (S : List (List Int)), vs = [.ref q] ∧ SqAt H q S ∧ S.flatten.length ≤ 100 ∧ ∀ r H', H r = none → Same H H' → H' r = some (.lst (S.flatten.map V.int)) → Q (.ref r) H'
def spCheckRg : Sp := fun vs H Q _ => ∃ (q : Addr) (S : List (List Int)) (m : Nat), vs = [.ref q] ∧ SqAt H q S ∧ okRg S m ∧ ∀ H', Same H H' → Q .non H'
def spBegun : Sp := fun vs H Q _ => ∃ (a : Addr) (ns : List Int), vs = [.ref a] ∧ H a = some (.lst (ns.map V.int)) ∧ ns ≠ [] ∧ ns.length ≤ 60 ∧ ∀ r H', H r = none → Same H H' → H' r = some (.lst ((begF ns).map V.int)) → Q (.ref r) H'
def spRowOf : Sp := fun vs H Q _ => ∃ (q : Addr) (S : List (List Int)) (m : Nat), vs = [.ref q] ∧ SqAt H q S ∧ okRg S m ∧ ∀ (r : Addr) (H' : Hp) (S' : List (List Int)), H r = none → Same H H' → S'.Perm (S.map begF) → (S'.map hdI).Pairwise (· < ·) → H' r = some (.lst (S'.flatten.map V.int)) → Q (.ref r) H'
theorem RwsA.of_made {α : Type} {H H' : Hp} {D : Addr} {xs : List α} {as : List Addr} {g : α → List Int} (m : Made (fun (x : α) o => o = .lst ((g x).map V.int)) H H' D xs as) : RwsA H' (xs.map g) as := by
  have : ∀ {xs : List α} {as : List Addr}, Paired (fun x a => ∃ o, H' a = some o ∧ o = .lst ((g x).map V.int)) xs as → RwsA H' (xs.map g) as := by
    intro xs as h
    induction h with
    | nil => exact .nil
    | cons x t ih =>
      obtain ⟨o, e, rfl⟩ := x
      exact .cons e ih
  exact this m.pr
theorem RwsA.refs {H : Hp} {S : List (List Int)} {as : List Addr} (h : RwsA H S as) (g : List Int → List Int) : (as.map V.ref).map (fun v => g (rowOf H v)) = S.map g := by
  have := rowsOf_eq h
  rw [← this, List.map_map, List.map_map, List.map_map]; rfl
theorem RwsA.split {H : Hp} {U : List (List Int)} {v : List Int} {as : List Addr} (h : RwsA H (U ++ [v]) as) : ∃ bs c, as = bs ++ [c] ∧ RwsA H U bs ∧ H c = some (.lst (v.map V.int)) := by
  unfold RwsA at h ⊢
  induction U generalizing as with
  | nil =>
    cases h with
    | cons x t => cases t; exact ⟨[], _, rfl, .nil, x⟩
  | cons u U ih =>
    cases h with
    | cons x t =>
      obtain ⟨bs, c, e, r, z⟩ := ih t
      exact ⟨_ :: bs, c, by rw [e]; rfl, .cons x r, z⟩
theorem begs_ne {S : List (List Int)} (h : ∀ r ∈ S, r ≠ []) : ∀ r ∈ S.map begF, r ≠ [] := fun r hr => by
  obtain ⟨x, hx, rfl⟩ := List.mem_map.mp hr
  intro z
  have := (beg_perm x).length_eq
  rw [z] at this
  exact h x hx (List.eq_nil_of_length_eq_zero this.symm)
theorem begs_heads {S : List (List Int)} {m : Nat} (h : okRg S m) : ((S.map begF).map hdI).Nodup := by
  have : (S.map begF).map hdI = S.map mxI := by
    rw [List.map_map]
    exact List.map_congr_left fun r hr => beg_hd (h.1 r hr)
  rw [this]
  exact heads_nodup h.nodup fun r hr => mx_mem (h.1 r hr)
/-! ### turned rings -/
def Turned (t r : List Int) : Prop := ∃ k, t = r.drop k ++ r.take k
theorem Turned.perm {t r : List Int} (h : Turned t r) : t.Perm r := by
  obtain ⟨k, rfl⟩ := h
  exact (List.perm_append_comm).trans (by rw [List.take_append_drop])
theorem turned_flat {T C : List (List Int)} (h : Paired Turned T C) : T.flatten.Perm C.flatten := by
  induction h with
  | nil => exact List.Perm.refl _
  | cons x t ih => rw [List.flatten_cons, List.flatten_cons]; exact x.perm.append ih
theorem turned_ne {T C : List (List Int)} (h : Paired Turned T C) (hC : ∀ r ∈ C, r ≠ []) : ∀ t ∈ T, t ≠ [] := by
  induction h with
  | nil => exact fun _ h => (nomatch h)
  | cons x t ih =>
    intro y hy
    rcases List.mem_cons.mp hy with rfl | hy
    · intro z
      have := x.perm.length_eq
      rw [z] at this
      exact hC _ (by simp) (List.eq_nil_of_length_eq_zero this.symm)
    · exact ih (fun r hr => hC r (by simp [hr])) y hy
end R

/-! part M12 -/
set_option Elab.async false
set_option linter.all false
set_option maxRecDepth 100000
set_option maxHeartbeats 4000000
namespace R
open PySem L2 RS
/-! ### who is behind: the numbers -/
def nxt (n i : Nat) : Nat := if i + 1 < n then i + 1 else 0
def FolI (r : List Int) (h v : Int) : Prop := ∃ i, i < r.length ∧ r.getD i 0 = h ∧ r.getD (nxt r.length i) 0 = v
def FolS (S : List (List Int)) (h v : Int) : Prop := ∃ r ∈ S, FolI r h v
theorem turn_get {r : List Int} {k j : Nat} (hk : k ≤ r.length) (hj : j < r.length) : (r.drop k ++ r.take k).getD j 0 = r.getD (if j < r.length - k then j + k else j - (r.length - k)) 0 := by
  rw [List.getD_eq_getElem?_getD, List.getD_eq_getElem?_getD]
  congr 1
  split
  · rw [List.getElem?_append_left (by rw [List.length_drop]; omega), List.getElem?_drop]; congr 1; omega
  · rw [List.getElem?_append_right (by rw [List.length_drop]; omega), List.length_drop, List.getElem?_take]
    rw [if_pos (by omega)]
theorem FolI.turn {r t : List Int} {h v : Int} (f : FolI r h v) (ht : Turned t r) : FolI t h v := by
  obtain ⟨k, rfl⟩ := ht
  obtain ⟨i, hi, e1, e2⟩ := f
  by_cases hk : k ≤ r.length
  · have hl : (r.drop k ++ r.take k).length = r.length := turn_len r k
    refine ⟨if k ≤ i then i - k else i + (r.length - k), ?_, ?_, ?_⟩
    · rw [hl]; split <;> omega
    · rw [turn_get hk (by split <;> omega), ← e1]
      congr 1
      split <;> split <;> omega
    · rw [hl, turn_get hk (by unfold nxt; repeat' split
                              all_goals omega), ← e2]
      congr 1
      unfold nxt
      repeat' split
      all_goals omega
  · rw [List.drop_eq_nil_of_le (by omega), List.take_of_length_le (by omega), List.nil_append]
    exact ⟨i, hi, e1, e2⟩
theorem FolS.sub {S T : List (List Int)} {h v : Int} (f : FolS S h v) (hs : ∀ r ∈ S, r ∈ T) : FolS T h v := let ⟨r, a, b⟩ := f; ⟨r, hs r a, b⟩
theorem FolS.turn {S T : List (List Int)} {h v : Int} (f : FolS S h v) (ht : Paired Turned T S) : FolS T h v := by
  obtain ⟨r, hr, f⟩ := f
  induction ht with
  | nil => cases hr
  | @cons t s T S x y ih =>
    rcases List.mem_cons.mp hr with rfl | hr
    · exact ⟨t, by simp, f.turn x⟩
    · obtain ⟨r', h1, h2⟩ := ih hr
      exact ⟨r', by simp [h1], h2⟩
theorem fol_ex {S : List (List Int)} {h : Int} (hm : h ∈ S.flatten) : ∃ v, FolS S h v := by
  obtain ⟨r, hr, hh⟩ := List.mem_flatten.mp hm
  obtain ⟨i, hi⟩ := List.getElem?_of_mem hh
  have hl := (List.getElem?_eq_some_iff.mp hi).1
  exact ⟨_, r, hr, i, hl, by rw [List.getD_eq_getElem?_getD, hi]; rfl, rfl⟩
theorem fol_eq {S : List (List Int)} {m : Nat} {g g' : Int → Int} (hp : S.flatten.Perm (whole m)) (h1 : ∀ h v, FolS S h v → g h = v) (h2 : ∀ h v, FolS S h v → g' h = v) : (whole m).map g = (whole m).map g' := by
  refine List.map_congr_left fun h hh => ?_
  obtain ⟨v, f⟩ := fol_ex (hp.symm.subset hh)
  rw [h1 h v f, h2 h v f]
theorem beg_turned (r : List Int) : Turned (begF r) r := ⟨_, rfl⟩
theorem begs_turned : ∀ S : List (List Int), Paired Turned (S.map begF) S
  | [] => .nil
  | r :: S => .cons (beg_turned r) (begs_turned S)
/-! ### the pairs -/
def prs (r : List Int) : List (Int × Int) := r.zip (r.drop 1 ++ r.take 1)
theorem prs_len (r : List Int) : (prs r).length = r.length := by unfold prs; rw [List.length_zip, turn_len]; omega
theorem prs_keys (r : List Int) : (prs r).map (·.1) = r := by unfold prs; rw [List.map_fst_zip]; rw [turn_len]; exact Nat.le_refl _
theorem fol_prs {r : List Int} {h v : Int} (f : FolI r h v) : (h, v) ∈ prs r := by
  obtain ⟨i, hi, e1, e2⟩ := f
  have hg := turn_get (k := 1) (j := i) (r := r) (by omega) hi
  have e3 : (r.drop 1 ++ r.take 1).getD i 0 = v := by
    rw [hg, ← e2]
    congr 1
    unfold nxt
    split <;> split <;> omega
  have : (prs r)[i]? = some (h, v) := by
    unfold prs
    rw [List.getElem?_zip_eq_some]
    exact ⟨by rw [getD_some hi, e1], by rw [getD_some (by rw [turn_len]; exact hi), e3]⟩
  exact List.mem_of_getElem? this
def prsS (S : List (List Int)) : List (Int × Int) := S.flatMap prs
theorem prsS_keys : ∀ S : List (List Int), (prsS S).map (·.1) = S.flatten
  | [] => rfl
  | r :: S => by
    have := prsS_keys S
    unfold prsS at this ⊢
    rw [List.flatMap_cons, List.map_append, prs_keys, this, List.flatten_cons]
theorem fol_prsS {S : List (List Int)} {h v : Int} (f : FolS S h v) : (h, v) ∈ prsS S := let ⟨r, a, b⟩ := f; List.mem_flatMap.mpr ⟨r, a, fol_prs b⟩
def lkp (ps : List (Int × Int)) (h : Int) : Option Int := (ps.find? fun p => decide (p.1 = h)).map (·.2)
theorem lkp_mem : ∀ {ps : List (Int × Int)} {h v : Int}, (ps.map (·.1)).Nodup → (h, v) ∈ ps → lkp ps h = some v
  | [], _, _, _, h => (nomatch h)
  | p :: ps, h, v, hn, hm => by
    have hn' := List.nodup_cons.mp (show (p.1 :: ps.map (·.1)).Nodup from hn)
    unfold lkp
    rw [List.find?_cons]
    rcases List.mem_cons.mp hm with e | hm
    · subst e; simp
    · have hne : p.1 ≠ h := fun z => hn'.1 (by rw [z]; exact List.mem_map.mpr ⟨(h, v), hm, rfl⟩)
      rw [decide_eq_false hne]
      exact lkp_mem hn'.2 hm
def encP (ps : List (Int × Int)) : List (Key × V) := ps.map fun p => (Sum.inl p.1, V.int p.2)
theorem encP_keys (ps : List (Int × Int)) : (encP ps).map (·.1) = (ps.map (·.1)).map Sum.inl := by unfold encP; rw [List.map_map, List.map_map]; rfl
theorem valV_enc : ∀ (ps : List (Int × Int)) (h : Int), valV (encP ps) (Sum.inl h) = (lkp ps h).map V.int
  | [], _ => rfl
  | p :: ps, h => by
    have ih := valV_enc ps h
    unfold valV lkp encP at ih ⊢
    rw [List.map_cons, List.find?_cons, List.find?_cons]
    by_cases e : p.1 = h
    · have : decide ((Sum.inl p.1 : Key) = Sum.inl h) = true := by rw [e]; simp
      rw [this, decide_eq_true e]; rfl
    · have : decide ((Sum.inl p.1 : Key) = Sum.inl h) = false := decide_eq_false fun z => e (Sum.inl.inj z)
      rw [this, decide_eq_false e]; exact ih
theorem lkp_none {ps : List (Int × Int)} {h : Int} (hn : h ∉ ps.map (·.1)) : lkp ps h = none := by
  unfold lkp
  rw [List.find?_eq_none.mpr fun p hp z => hn (List.mem_map.mpr ⟨p, hp, of_decide_eq_true z⟩)]; rfl
theorem put_enc {ps : List (Int × Int)} {h v : Int} (hn : h ∉ ps.map (·.1)) : putK (encP ps) (Sum.inl h) (V.int v) = encP (ps ++ [(h, v)]) := by
  rw [putK_new _ (by rw [valV_enc, lkp_none hn]; rfl)]
  unfold encP
  rw [List.map_append]; rfl
/-! ### the same, set one by one -/
def setP (fs : List Int) (ps : List (Int × Int)) : List Int := ps.foldl (fun f p => f.set (p.1 - 1).toNat p.2) fs
theorem setP_len (ps : List (Int × Int)) : ∀ fs : List Int, (setP fs ps).length = fs.length := by
  induction ps with
  | nil => exact fun _ => rfl
  | cons p ps ih => intro fs; show (setP (fs.set _ _) ps).length = _; rw [ih, List.length_set]
theorem setP_snoc (fs : List Int) (ps : List (Int × Int)) (p : Int × Int) : setP fs (ps ++ [p]) = (setP fs ps).set (p.1 - 1).toNat p.2 := by unfold setP; rw [List.foldl_append]; rfl
theorem setP_get {fs : List Int} {m : Nat} (hl : fs.length = m) : ∀ (ps : List (Int × Int)), (ps.map (·.1)).Nodup → (∀ p ∈ ps, 1 ≤ p.1 ∧ p.1 ≤ (m : Int)) → ∀ p ∈ ps, (setP fs ps).getD (p.1 - 1).toNat 0 = p.2 := by
  refine snoc_ind (fun _ _ p h => (nomatch h)) fun ps q ih hn hb p hp => ?_
  rw [List.map_append] at hn
  obtain ⟨n1, n2, n3⟩ := List.nodup_append.mp hn
  have hql := hb q (by simp)
  have hsl := setP_len ps fs
  rw [setP_snoc]
  rcases List.mem_append.mp hp with hp | hp
  · have hne : p.1 ≠ q.1 := n3 p.1 (List.mem_map.mpr ⟨p, hp, rfl⟩) q.1 (by simp)
    have hpl := hb p (by simp [hp])
    rw [List.getD_eq_getElem?_getD, List.getElem?_set_ne (by omega), ← List.getD_eq_getElem?_getD]
    exact ih n1 (fun p hp => hb p (by simp [hp])) p hp
  · have : p = q := by simpa using hp
    subst this
    rw [List.getD_eq_getElem?_getD, List.getElem?_set_self (by omega)]; rfl
def prv (n k : Nat) : Nat := if k = 0 then n - 1 else k - 1
def qrs (r : List Int) : List (Int × Int) := (List.range r.length).map fun k => (r.getD (prv r.length k) 0, r.getD k 0)
def qrsS (S : List (List Int)) : List (Int × Int) := S.flatMap qrs
theorem qrs_keys (r : List Int) : ((qrs r).map (·.1)).Perm r := by
  have h0 : (qrs r).map (·.1) = (List.range r.length).map fun k => r.getD (prv r.length k) 0 := by unfold qrs; rw [List.map_map]; rfl
  rw [h0]
  have : ((List.range r.length).map fun k => r.getD (prv r.length k) 0) = r.drop (r.length - 1) ++ r.take (r.length - 1) := by
    apply List.ext_getElem
    · rw [turn_len]; simp
    · intro i h1 h2
      rw [turn_len] at h2
      have := turn_get (r := r) (k := r.length - 1) (j := i) (by omega) h2
      rw [List.getD_eq_getElem?_getD, List.getElem?_eq_getElem (by rw [turn_len]; exact h2)] at this
      have e : (r.drop (r.length - 1) ++ r.take (r.length - 1))[i]'(by rw [turn_len]; exact h2) = r.getD (if i < r.length - (r.length - 1) then i + (r.length - 1) else i - (r.length - (r.length - 1))) 0 := this
      rw [e, List.getElem_map, List.getElem_range]
      congr 1
      unfold prv
      split <;> split <;> omega
  rw [this]
  exact (List.perm_append_comm).trans (by rw [List.take_append_drop])
theorem qrsS_keys : ∀ S : List (List Int), ((qrsS S).map (·.1)).Perm S.flatten
  | [] => List.Perm.refl _
  | r :: S => by
    have := qrsS_keys S
    unfold qrsS at this ⊢
    rw [List.flatMap_cons, List.map_append, List.flatten_cons]
    exact (qrs_keys r).append this
theorem fol_qrs {r : List Int} {h v : Int} (f : FolI r h v) : (h, v) ∈ qrs r := by
  obtain ⟨i, hi, e1, e2⟩ := f
  unfold qrs
  refine List.mem_map.mpr ⟨nxt r.length i, List.mem_range.mpr (by unfold nxt; split <;> omega), ?_⟩
  rw [e2]
  have : prv r.length (nxt r.length i) = i := by
    unfold prv nxt
    by_cases c : i + 1 < r.length
    · rw [if_pos c, if_neg (by omega)]; omega
    · rw [if_neg c, if_pos rfl]; omega
  rw [this, e1]
theorem fol_qrsS {S : List (List Int)} {h v : Int} (f : FolS S h v) : (h, v) ∈ qrsS S := let ⟨r, a, b⟩ := f; List.mem_flatMap.mpr ⟨r, a, fol_qrs b⟩
/-! ### cut again -/
theorem cuts_app {ns : List Int} {h : Int} (hn : ∀ y ∈ ns, y < h) : ∀ t : List Int, (∀ y ∈ t, y ≤ h) → cutsF (ns ++ h :: t) = cutsF ns ++ [h :: t] := by
  refine snoc_ind (fun _ => ?_) fun t x ih ht => ?_
  · exact cuts_seen (List.all_eq_true.mpr fun y hy => decide_eq_true (hn y hy))
  · have ih' := ih fun y hy => ht y (by simp [hy])
    have hx := ht x (by simp)
    have hno : ((ns ++ h :: t).all fun y => decide (y < x)) = false := List.all_eq_false.mpr ⟨h, by simp, by simp; omega⟩
    obtain ⟨U, v, e1, e2⟩ := cuts_not hno
    rw [ih'] at e1
    obtain ⟨a1, a2⟩ := List.append_inj' e1 rfl
    have a2 : h :: t = v := by simpa using a2
    rw [show ns ++ h :: (t ++ [x]) = (ns ++ h :: t) ++ [x] by simp, e2, ← a1, ← a2]
    simp
theorem cuts_back : ∀ S : List (List Int), (∀ r ∈ S, r ≠ []) → (∀ r ∈ S, ∀ y ∈ r, y ≤ hdI r) → (S.map hdI).Pairwise (· < ·) → cutsF S.flatten = S := by
  refine snoc_ind (fun _ _ _ => rfl) fun S r ih h1 h2 h3 => ?_
  rw [List.map_append] at h3
  obtain ⟨p1, _, p3⟩ := List.pairwise_append.mp h3
  have ihS := ih (fun r hr => h1 r (by simp [hr])) (fun r hr => h2 r (by simp [hr])) p1
  obtain ⟨h, t, rfl⟩ : ∃ h t, r = h :: t := by
    cases r with
    | nil => exact absurd rfl (h1 [] (by simp))
    | cons h t => exact ⟨h, t, rfl⟩
  rw [List.flatten_append]
  show cutsF (S.flatten ++ [h :: t].flatten) = _
  rw [show [h :: t].flatten = h :: t by simp, cuts_app (h := h) (fun y hy => ?_) t (fun y hy => h2 (h :: t) (by simp) y (by simp [hy])), ihS]
  obtain ⟨s, hs, hys⟩ := List.mem_flatten.mp hy
  have a := h2 s (by simp [hs]) y hys
  have b := p3 (hdI s) (List.mem_map.mpr ⟨s, hs, rfl⟩) h (by simp [hdI])
  omega
theorem beg_max {r : List Int} (h : r ≠ []) : ∀ y ∈ begF r, y ≤ hdI (begF r) := fun y hy => by
  rw [beg_hd h]; exact mx_ge ((beg_perm r).subset hy)
/-- what row_of makes of rings is cut into these -/
theorem row_cuts {S S' : List (List Int)} {m : Nat} (ok : okRg S m) (hp : S'.Perm (S.map begF)) (hs : (S'.map hdI).Pairwise (· < ·)) : cutsF S'.flatten = S' := by
  refine cuts_back S' (fun r hr => begs_ne ok.1 r (hp.subset hr)) (fun r hr => ?_) hs
  obtain ⟨x, hx, rfl⟩ := List.mem_map.mp (hp.subset hr)
  exact beg_max (ok.1 x hx)
theorem okRg.begun {S S' : List (List Int)} {m : Nat} (ok : okRg S m) (hp : S'.Perm (S.map begF)) : okRg S' m := ⟨fun r hr => begs_ne ok.1 r (hp.subset hr), (hp.flatten.trans (flat_map_perm beg_perm S)).trans ok.2.1, ok.2.2.1, ok.2.2.2⟩
theorem beg_one {t r : List Int} (ht : Turned t r) (hne : r ≠ []) (hnd : r.Nodup) : begF t = begF r := by
  -- r is itself a turned begF r
  have h1 : Turned r (begF r) := by
    unfold begF
    generalize (r.findIdx fun x => decide (x = mxI r)) = k
    refine ⟨(r.drop k).length, ?_⟩
    rw [List.drop_left, List.take_left, List.take_append_drop]
  have h2 : FolI r = FolI r := rfl
  obtain ⟨k, rfl⟩ := ht
  obtain ⟨j, hj⟩ := h1
  have hb : begF r ≠ [] := fun z => by
    have := (beg_perm r).length_eq
    rw [z] at this
    exact hne (List.eq_nil_of_length_eq_zero this.symm)
  have hbn : (begF r).Nodup := nodup_of_perm (beg_perm r) hnd
  have hbm := beg_max hne
  generalize begF r = B at hj hb hbn hbm
  -- turned twice is turned once
  obtain ⟨i, hi⟩ : ∃ i, r.drop k ++ r.take k = B.drop i ++ B.take i := by
    by_cases hkl : k ≤ r.length
    · have hl : r.length = B.length := by rw [hj, turn_len]
      by_cases hjl : j ≤ B.length
      · by_cases hc : k ≤ B.length - j
        · refine ⟨j + k, ?_⟩
          rw [hj, List.drop_append_of_le_length (by rw [List.length_drop]; omega), List.take_append_of_le_length (by rw [List.length_drop]; omega), List.drop_drop, List.append_assoc, ← List.take_add]
        · refine ⟨k - (B.length - j), ?_⟩
          have hd : (B.drop j).length = B.length - j := List.length_drop ..
          have e1 : (B.drop j ++ B.take j).drop k = (B.take j).drop (k - (B.length - j)) := by rw [List.drop_append, List.drop_eq_nil_of_le (by rw [hd]; omega), List.nil_append, hd]
          have e2 : (B.drop j ++ B.take j).take k = B.drop j ++ (B.take j).take (k - (B.length - j)) := by rw [List.take_append, List.take_of_length_le (by rw [hd]; omega), hd]
          rw [hj, e1, e2, List.take_take, show min (k - (B.length - j)) j = k - (B.length - j) by omega, ← List.append_assoc]
          congr 1
          have hq : k - (B.length - j) ≤ j := by omega
          clear e1 e2
          generalize k - (B.length - j) = q at hq
          have e3 : B.drop q = (B.take j).drop q ++ B.drop j := by
            conv => lhs; rw [← List.take_append_drop j B]
            rw [List.drop_append_of_le_length (by rw [List.length_take]; omega)]
          rw [e3]
      · rw [List.drop_eq_nil_of_le (by omega), List.take_of_length_le (by omega), List.nil_append] at hj
        exact ⟨k, by rw [hj]⟩
    · refine ⟨j, ?_⟩
      rw [List.drop_eq_nil_of_le (by omega), List.take_of_length_le (by omega), List.nil_append]; exact hj
  rw [hi]
  exact beg_of_turn hb hbm hbn
theorem begs_one {T S : List (List Int)} (h : Paired Turned T S) (hne : ∀ r ∈ S, r ≠ []) (hnd : ∀ r ∈ S, r.Nodup) : T.map begF = S.map begF := by
  induction h with
  | nil => rfl
  | cons x t ih => rw [List.map_cons, List.map_cons, beg_one x (hne _ (by simp)) (hnd _ (by simp)), ih (fun r hr => hne r (by simp [hr])) fun r hr => hnd r (by simp [hr])]
/-! ### rings with a fault -/
def badRg (S : List (List Int)) : Prop := [] ∈ S ∨ S.flatten.length < 1 ∨ 30 < S.flatten.length ∨ ¬ S.flatten.Perm (whole S.flatten.length)
theorem sum_set : ∀ {l : List Int} {i : Nat} (v : Int), i < l.length → (l.set i v).sum + l.getD i 0 = l.sum + v
  | [], _, _, h => absurd h (by simp)
  | x :: l, 0, v, _ => by
    show (v :: l).sum + x = (x :: l).sum + v
    rw [List.sum_cons, List.sum_cons]; omega
  | x :: l, i + 1, v, h => by
    show (x :: l.set i v).sum + l.getD i 0 = (x :: l).sum + v
    have := sum_set (l := l) (i := i) v (by simpa using h)
    rw [List.sum_cons, List.sum_cons]; omega
theorem sum_perm {a b : List Int} (h : a.Perm b) : a.sum = b.sum := by
  induction h with
  | nil => rfl
  | cons x _ ih => rw [List.sum_cons, List.sum_cons, ih]
  | swap x y l => rw [List.sum_cons, List.sum_cons, List.sum_cons, List.sum_cons]; omega
  | trans _ _ i1 i2 => rw [i1, i2]
theorem sum_flat : ∀ S : List (List Int), S.flatten.sum = (S.map List.sum).sum
  | [] => rfl
  | r :: S => by rw [List.flatten_cons, List.sum_append, List.map_cons, List.sum_cons, sum_flat S]
/-- one height changed -/
theorem bad_set {S : List (List Int)} {m i j : Nat} {v : Int} (ok : okRg S m) (hi : i < S.length) (hj : j < (S.getD i []).length) (hv : v ≠ (S.getD i []).getD j 0) : badRg (S.set i ((S.getD i []).set j v)) := by
  have hsum : (S.set i ((S.getD i []).set j v)).flatten.sum + (S.getD i []).getD j 0 = S.flatten.sum + v := by
    rw [sum_flat, sum_flat, List.map_set]
    have a := sum_set (l := S.map List.sum) (i := i) ((S.getD i []).set j v).sum (by rw [List.length_map]; exact hi)
    have b := sum_set (l := S.getD i []) (i := j) v hj
    have c : (S.map List.sum).getD i 0 = (S.getD i []).sum := by rw [List.getD_eq_getElem?_getD, List.getD_eq_getElem?_getD, List.getElem?_map, List.getElem?_eq_getElem hi]; rfl
    omega
  have hlen : (S.set i ((S.getD i []).set j v)).flatten.length = m := by
    have e : ((S.set i ((S.getD i []).set j v)).map List.length) = S.map List.length := by
      rw [List.map_set, List.length_set]
      apply List.ext_getElem
      · simp
      · intro k h1 h2
        rw [List.getElem_set]
        split
        · next h => subst h; rw [List.getElem_map, List.getD_eq_getElem?_getD, List.getElem?_eq_getElem hi]; rfl
        · rfl
    rw [List.length_flatten, e, ← List.length_flatten, ok.len]
  refine .inr (.inr (.inr fun z => hv ?_))
  rw [hlen] at z
  have := sum_perm (z.trans ok.2.1.symm)
  omega
theorem bad_mem {S : List (List Int)} {x : Int} (hx : x ∈ S.flatten) (h : x < 1) : badRg S := .inr (.inr (.inr (not_whole hx (.inl h))))
theorem bad_dup {S T : List (List Int)} {x : Int} (hx : x ∈ S.flatten) (hp : T.Perm ([x] :: S)) : badRg T := .inr (.inr (.inr fun z => by
  have h1 : T.flatten.Perm (x :: S.flatten) := by have := hp.flatten; rw [List.flatten_cons] at this; exact this
  have hn := nodup_of_perm (h1.symm.trans z) (whole_nodup _)
  exact (List.nodup_cons.mp hn).1 hx))
end R

/-! part H16 -/
set_option Elab.async false
set_option linter.all false
set_option maxRecDepth 100000
set_option maxHeartbeats 4000000
namespace R
open PySem L2 RS
def spBehind : Sp := fun vs H Q _ => ∃ (q : Addr) (S : List (List Int)) (m : Nat), vs = [.ref q] ∧ SqAt H q S ∧ okRg S m ∧ ∀ (r : Addr) (H' : Hp) (g : Int → Int), H r = none → Same H H' → (∀ h v, FolS S h v → g h = v) → H' r = some (.lst (((whole m).map g).map V.int)) → Q (.ref r) H'
def spLBehind : Sp := fun vs H Q _ => ∃ (q : Addr) (S : List (List Int)) (m : Nat), vs = [.ref q, .int m] ∧ SqAt H q S ∧ okRg S m ∧ ∀ (r : Addr) (H' : Hp) (g : Int → Int), H r = none → Same H H' → (∀ h v, FolS S h v → g h = v) → H' r = some (.lst (((whole m).map g).map V.int)) → Q (.ref r) H'
def spLDrawn (K : PySem.W.Frag) : Sp := fun vs H Q _ => ∃ (a : Addr) (ns : List Int) (m : Nat), vs = [.ref a, .int m] ∧ SqL K H a (ns.map V.int) ∧ 1 ≤ m ∧ m ≤ 30 ∧ ∀ (q : Addr) (H' : Hp) (S : List (List Int)), Same H H' → SqAt H' q S → okRg S m → Q (.ref q) H'
def furF (h m : Int) : Int := if h = 1 then 0 else h + (if h = m then 1 else 0)
def spFurther : Sp := fun vs H Q _ => ∃ h m : Int, vs = [.int h, .int m] ∧ Q (.int (furF h m)) H
def spRgBad (C : Addr) : Sp := fun vs H _ E => ∃ (a : Addr) (S : List (List Int)), vs = [.ref a] ∧ SqAt H a S ∧ S.length ≤ 60 ∧ S.flatten.length ≤ 60 ∧ badRg S ∧ ∀ H', Same H H' → E (.ref C) none H'
def spRef4 : Sp := fun vs H Q _ => ∃ (c : Int) (a : Addr) (S : List (List Int)), vs = [.int c, .ref a] ∧ SqAt H a S ∧ S.length ≤ 60 ∧ S.flatten.length ≤ 60 ∧ badRg S ∧ ∀ H', Same H H' → Q (.int 1) H'
theorem u1_of {n : Nat} (h : n + 8 < cLine) : n + 1 < cLine := by omega
theorem split_at {S : List (List Int)} {i : Nat} {r : List Int} (h : S[i]? = some r) : S = S.take i ++ r :: S.drop (i + 1) := by
  obtain ⟨hi, e⟩ := List.getElem?_eq_some_iff.mp h
  have := List.drop_eq_getElem_cons hi
  rw [e] at this
  rw [← this, List.take_append_drop]
theorem fresh_key {S : List (List Int)} {i j : Nat} {r : List Int} {h : Int} (hn : S.flatten.Nodup) (hr : S[i]? = some r) (hj : r[j]? = some h) : h ∉ (prsS (S.take i) ++ (prs r).take j).map (·.1) := by
  rw [List.map_append, prsS_keys, List.map_take, prs_keys]
  rw [split_at hr, List.flatten_append, List.flatten_cons] at hn
  obtain ⟨_, n2, n3⟩ := List.nodup_append.mp hn
  have hm : h ∈ r := List.mem_of_getElem? hj
  intro z
  rcases List.mem_append.mp z with z | z
  · exact n3 h z h (List.mem_append_left _ hm) rfl
  · have nr := (List.nodup_append.mp n2).1
    obtain ⟨k, hk⟩ := List.getElem?_of_mem z
    rw [List.getElem?_take] at hk
    split at hk
    · next hkj =>
      have := one_ix nr hk hj
      omega
    · cases hk
theorem prs_at {r : List Int} {j : Nat} {x y : Int} (hx : r[j]? = some x) (hy : (r.drop 1 ++ r.take 1)[j]? = some y) : (prs r)[j]? = some (x, y) := by
  unfold prs
  rw [List.getElem?_zip_eq_some]
  exact ⟨hx, hy⟩
/-! ### rings laid by steps -/
theorem RwsA.set {H : Hp} {S : List (List Int)} {as : List Addr} {b : Addr} {ns : List Int} (h : RwsA H S as) (hnd : as.Nodup) : ∀ {j : Nat}, as[j]? = some b → RwsA (upd H b (.lst (ns.map V.int))) (S.set j ns) as := by
  unfold RwsA at h ⊢
  induction h with
  | nil => intro j e; simp at e
  | @cons x a S as e t ih =>
    have hn := List.nodup_cons.mp hnd
    intro j ej
    cases j with
    | zero =>
      have : a = b := by simpa using ej
      subst this
      refine .cons upd_same (Prd.mono' (fun r c hc z => ?_) t)
      rw [upd_ne (fun w => hn.1 (by rw [← w]; exact hc))]; exact z
    | succ j =>
      have ej' : as[j]? = some b := by simpa using ej
      have hab : a ≠ b := fun w => hn.1 (by rw [w]; exact List.mem_of_getElem? ej')
      exact .cons (by rw [upd_ne hab]; exact e) (ih hn.2 ej')
theorem flat_set : ∀ {S : List (List Int)} {j : Nat} (h : Int), j < S.length → (S.set j (S.getD j [] ++ [h])).flatten.Perm (S.flatten ++ [h])
  | [], _, _, z => absurd z (by simp)
  | r :: S, 0, h, _ => by
    show ((r ++ [h]) :: S).flatten.Perm ((r :: S).flatten ++ [h])
    rw [List.flatten_cons, List.flatten_cons, List.append_assoc, List.append_assoc]
    exact List.Perm.append_left r List.perm_append_comm
  | r :: S, j + 1, h, z => by
    show (r :: S.set j (S.getD j [] ++ [h])).flatten.Perm ((r :: S).flatten ++ [h])
    rw [List.flatten_cons, List.flatten_cons, List.append_assoc]
    exact List.Perm.append_left r (flat_set h (by simpa using z))
theorem set_ne {S : List (List Int)} {j : Nat} {r : List Int} (h : ∀ x ∈ S, x ≠ []) (hr : r ≠ []) : ∀ x ∈ S.set j r, x ≠ [] := fun x hx => by
  rcases List.mem_or_eq_of_mem_set hx with hx | hx
  · exact h x hx
  · rw [hx]; exact hr
theorem at_prev {r : List Int} {j : Nat} (hj : j < r.length) : atI (r.map V.int) ((j : Int) - 1) = some (.int (r.getD (prv r.length j) 0)) := by
  cases j with
  | zero =>
    have hne : r ≠ [] := fun z => by rw [z] at hj; simp at hj
    obtain ⟨A, l, rfl⟩ : ∃ A l, r = A ++ [l] := ⟨r.dropLast, r.getLast hne, (List.dropLast_concat_getLast hne).symm⟩
    have e : prv (A ++ [l]).length 0 = A.length := by unfold prv; rw [if_pos rfl, List.length_append, List.length_singleton]; omega
    rw [e, List.getD_eq_getElem?_getD, List.getElem?_concat_length, List.map_append]
    exact atI_last _ _
  | succ j =>
    have e : prv r.length (j + 1) = j := by unfold prv; rw [if_neg (by omega)]; omega
    rw [e, show (((j + 1 : Nat) : Int) - 1) = ((j : Nat) : Int) by omega]
    have := at_int (ns := r) (k := (j : Int)) (by omega) (by omega)
    rw [Int.toNat_natCast] at this; exact this
theorem fs_whole {fs : List Int} {m : Nat} (h : fs.length = m) : fs = (whole m).map fun x => fs.getD (x - 1).toNat 0 := by
  unfold whole
  rw [List.map_map]
  apply List.ext_getElem
  · simp [h]
  · intro i h1 h2
    rw [List.getElem_map, List.getElem_range]
    show fs[i] = fs.getD ((1 + (i : Int)) - 1).toNat 0
    rw [show ((1 + (i : Int)) - 1).toNat = i by omega, List.getD_eq_getElem?_getD, List.getElem?_eq_getElem h1]; rfl
theorem qrs_at {r : List Int} {j : Nat} (hj : j < r.length) : (qrs r)[j]? = some (r.getD (prv r.length j) 0, r.getD j 0) := by
  unfold qrs
  rw [List.getElem?_map, List.getElem?_range hj]; rfl
theorem prv_mem {r : List Int} {j : Nat} (hj : j < r.length) : r.getD (prv r.length j) 0 ∈ r := by
  have hp : prv r.length j < r.length := by unfold prv; split <;> omega
  rw [List.getD_eq_getElem?_getD, List.getElem?_eq_getElem hp]; exact List.getElem_mem _
theorem set_of_fol {S : List (List Int)} {m : Nat} (ok : okRg S m) {z : List Int} (hz : z.length = m) {h v : Int} (f : FolS S h v) : (setP z (qrsS S)).getD (h - 1).toNat 0 = v := by
  have hk := qrsS_keys S
  refine setP_get hz (qrsS S) (nodup_of_perm hk ok.nodup) (fun p hp => ?_) (h, v) (fol_qrsS f)
  have : p.1 ∈ S.flatten := hk.subset (List.mem_map.mpr ⟨p, hp, rfl⟩)
  exact mem_bd ok.2.1 this
theorem Prd.take {α β : Type} {F : α → β → Prop} {l : List α} {m : List β} (h : Paired F l m) : ∀ k, Paired F (l.take k) (m.take k) := by
  induction h with
  | nil => intro k; rw [List.take_nil, List.take_nil]; exact .nil
  | cons x t ih =>
    intro k
    cases k with
    | zero => exact .nil
    | succ k => exact .cons x (ih k)
theorem Prd.drop {α β : Type} {F : α → β → Prop} {l : List α} {m : List β} (h : Paired F l m) : ∀ k, Paired F (l.drop k) (m.drop k) := by
  induction h with
  | nil => intro k; rw [List.drop_nil, List.drop_nil]; exact .nil
  | cons x t ih =>
    intro k
    cases k with
    | zero => exact .cons x t
    | succ k => exact ih k
theorem ins_perm2 {S : List (List Int)} (k : Nat) (r : List Int) : (S.take k ++ [r] ++ S.drop k).Perm (r :: S) := by
  have h1 : (S.take k ++ [r] ++ S.drop k).Perm ([r] ++ S.take k ++ S.drop k) := List.Perm.append_right _ List.perm_append_comm
  refine h1.trans ?_
  rw [List.append_assoc, List.take_append_drop]; exact List.Perm.refl _
theorem turned_map (S : List (List Int)) (k : Nat) : Paired Turned (S.map fun r => r.drop k ++ r.take k) S := by
  induction S with
  | nil => exact .nil
  | cons r S ih => exact .cons ⟨k, rfl⟩ ih
theorem turned_ok {T S : List (List Int)} {m : Nat} (h : Paired Turned T S) (ok : okRg S m) : okRg T m := ⟨turned_ne h ok.1, (turned_flat h).trans ok.2.1, ok.2.2.1, ok.2.2.2⟩
theorem rot_perm (S : List (List Int)) (k : Nat) : (S.drop k ++ S.take k).Perm S := (List.perm_append_comm).trans (by rw [List.take_append_drop])
theorem okRg.perm {S T : List (List Int)} {m : Nat} (ok : okRg S m) (h : T.Perm S) : okRg T m := ⟨fun r hr => ok.1 r (h.subset hr), h.flatten.trans ok.2.1, ok.2.2.1, ok.2.2.2⟩
theorem copied {H H1 H' : Hp} {D : Addr} {as cs : List Addr} {S : List (List Int)} (hR : RwsA H S as) (m : Made (fun x o => o = HO.lst ((rowOf H x).map V.int)) H1 H' D ((as.map V.ref).filter fun _ => true) cs) : RwsA H' S cs := by
  have := RwsA.of_made (g := rowOf H) m
  rw [filter_all, rowsOf_eq hR] at this
  exact this
theorem rg_pos {S : List (List Int)} {m : Nat} (ok : okRg S m) : 0 < S.length := by
  cases S with
  | nil => have := ok.len; have := ok.2.2.1; simp at *; omega
  | cons r S => simp
theorem getI_mem {l : List Int} {j : Nat} (h : j < l.length) : l.getD j 0 ∈ l := by rw [List.getD_eq_getElem?_getD, List.getElem?_eq_getElem h]; exact List.getElem_mem _
end R

/-! part G04 -/
set_option Elab.async false
set_option linter.all false
set_option maxRecDepth 100000
set_option maxHeartbeats 4000000
namespace R
open PySem L2 RS
def top (i : Nat) : Stmt := PySem.Challenge.pw_rowsight_k04_rings_and_who_is_behind.main.body.getD i (.Pass ⟨0, 0, 0, 0⟩)
abbrev s_is_whole_number : Stmt := top 8
abbrev N_is_whole_number : List Str := ["value"]
theorem sc_is_whole_number : FnScope N_is_whole_number ["value"] (defScope s_is_whole_number) := ⟨rfl, rfl, rfl, by decide +kernel, rfl, by decide +kernel, by decide +kernel⟩
abbrev s_check_row : Stmt := top 9
abbrev N_check_row : List Str := ["row"]
theorem sc_check_row : FnScope N_check_row ["row"] (defScope s_check_row) := ⟨rfl, rfl, rfl, by decide +kernel, rfl, by decide +kernel, by decide +kernel⟩
abbrev s_has_each_once : Stmt := top 10
abbrev N_has_each_once : List Str := ["heights", "many"]
theorem sc_has_each_once : FnScope N_has_each_once ["heights", "many"] (defScope s_has_each_once) := ⟨rfl, rfl, rfl, by decide +kernel, rfl, by decide +kernel, by decide +kernel⟩
abbrev s_check_whole_row : Stmt := top 11
abbrev N_check_whole_row : List Str := ["row"]
theorem sc_check_whole_row : FnScope N_check_whole_row ["row"] (defScope s_check_whole_row) := ⟨rfl, rfl, rfl, by decide +kernel, rfl, by decide +kernel, by decide +kernel⟩
abbrev s_seen_along : Stmt := top 12
abbrev N_seen_along : List Str := ["row", "places", "seen", "place"]
theorem sc_seen_along : FnScope N_seen_along ["row", "places"] (defScope s_seen_along) := ⟨rfl, rfl, rfl, by decide +kernel, rfl, by decide +kernel, by decide +kernel⟩
abbrev s_front : Stmt := top 13
abbrev N_front : List Str := ["row"]
theorem sc_front : FnScope N_front ["row"] (defScope s_front) := ⟨rfl, rfl, rfl, by decide +kernel, rfl, by decide +kernel, by decide +kernel⟩
abbrev s_joined : Stmt := top 15
abbrev N_joined : List Str := ["rings", "heights", "ring"]
theorem sc_joined : FnScope N_joined ["rings"] (defScope s_joined) := ⟨rfl, rfl, rfl, by decide +kernel, rfl, by decide +kernel, by decide +kernel⟩
abbrev s_check_rings : Stmt := top 16
abbrev N_check_rings : List Str := ["rings", "heights"]
theorem sc_check_rings : FnScope N_check_rings ["rings"] (defScope s_check_rings) := ⟨rfl, rfl, rfl, by decide +kernel, rfl, by decide +kernel, by decide +kernel⟩
abbrev s_rings_of : Stmt := top 17
abbrev N_rings_of : List Str := ["row", "starts", "ends"]
theorem sc_rings_of : FnScope N_rings_of ["row"] (defScope s_rings_of) := ⟨rfl, rfl, rfl, by decide +kernel, rfl, by decide +kernel, by decide +kernel⟩
abbrev s_begun_at_greatest : Stmt := top 18
abbrev N_begun_at_greatest : List Str := ["ring", "place"]
theorem sc_begun_at_greatest : FnScope N_begun_at_greatest ["ring"] (defScope s_begun_at_greatest) := ⟨rfl, rfl, rfl, by decide +kernel, rfl, by decide +kernel, by decide +kernel⟩
abbrev s_row_of : Stmt := top 19
abbrev N_row_of : List Str := ["rings"]
theorem sc_row_of : FnScope N_row_of ["rings"] (defScope s_row_of) := ⟨rfl, rfl, rfl, by decide +kernel, rfl, by decide +kernel, by decide +kernel⟩
abbrev s_behind : Stmt := top 20
abbrev N_behind : List Str := ["rings", "followers", "ring", "height", "follower"]
theorem sc_behind : FnScope N_behind ["rings"] (defScope s_behind) := ⟨rfl, rfl, rfl, by decide +kernel, rfl, by decide +kernel, by decide +kernel⟩
abbrev s_law_cell_at : Stmt := top 22
abbrev N_law_cell_at : List Str := ["script", "k"]
theorem sc_law_cell_at : FnScope N_law_cell_at ["script", "k"] (defScope s_law_cell_at) := ⟨rfl, rfl, rfl, by decide +kernel, rfl, by decide +kernel, by decide +kernel⟩
abbrev s_law_draw : Stmt := top 23
abbrev N_law_draw : List Str := ["script", "k", "stir"]
theorem sc_law_draw : FnScope N_law_draw ["script", "k"] (defScope s_law_draw) := ⟨rfl, rfl, rfl, by decide +kernel, rfl, by decide +kernel, by decide +kernel⟩
abbrev s_law_whole : Stmt := top 24
abbrev N_law_whole : List Str := ["found"]
theorem sc_law_whole : FnScope N_law_whole ["found"] (defScope s_law_whole) := ⟨rfl, rfl, rfl, by decide +kernel, rfl, by decide +kernel, by decide +kernel⟩
abbrev s_law_order : Stmt := top 25
abbrev N_law_order : List Str := ["script", "start", "many", "left", "row", "k", "at", "to"]
theorem sc_law_order : FnScope N_law_order ["script", "start", "many"] (defScope s_law_order) := ⟨rfl, rfl, rfl, by decide +kernel, rfl, by decide +kernel, by decide +kernel⟩
abbrev s_law_numbers : Stmt := top 26
abbrev N_law_numbers : List Str := ["found", "due"]
theorem sc_law_numbers : FnScope N_law_numbers ["found", "due"] (defScope s_law_numbers) := ⟨rfl, rfl, rfl, by decide +kernel, rfl, by decide +kernel, by decide +kernel⟩
abbrev s_law_alone : Stmt := top 27
abbrev N_law_alone : List Str := ["e", "found"]
theorem sc_law_alone : FnScope N_law_alone ["e"] (defScope s_law_alone) := ⟨rfl, rfl, rfl, by decide +kernel, rfl, by decide +kernel, by decide +kernel⟩
abbrev s_law_drawn : Stmt := top 28
abbrev N_law_drawn : List Str := ["script", "many", "rings", "height"]
theorem sc_law_drawn : FnScope N_law_drawn ["script", "many"] (defScope s_law_drawn) := ⟨rfl, rfl, rfl, by decide +kernel, rfl, by decide +kernel, by decide +kernel⟩
abbrev s_law_behind : Stmt := top 29
abbrev N_law_behind : List Str := ["rings", "many", "found", "ring", "k"]
theorem sc_law_behind : FnScope N_law_behind ["rings", "many"] (defScope s_law_behind) := ⟨rfl, rfl, rfl, by decide +kernel, rfl, by decide +kernel, by decide +kernel⟩
abbrev s_law_further : Stmt := top 30
abbrev N_law_further : List Str := ["height", "many"]
theorem sc_law_further : FnScope N_law_further ["height", "many"] (defScope s_law_further) := ⟨rfl, rfl, rfl, by decide +kernel, rfl, by decide +kernel, by decide +kernel⟩
abbrev s_law_refused : Stmt := top 31
abbrev N_law_refused : List Str := ["call", "rings", "found", "e"]
theorem sc_law_refused : FnScope N_law_refused ["call", "rings"] (defScope s_law_refused) := ⟨rfl, rfl, rfl, by decide +kernel, rfl, by decide +kernel, by decide +kernel⟩
abbrev s_law : Stmt := top 32
abbrev N_law : List Str := ["script", "many", "rings", "cell", "at", "spoiled", "spot", "old", "handed", "due", "found", "other", "told"]
theorem sc_law : FnScope N_law ["script"] (defScope s_law) := ⟨rfl, rfl, rfl, by decide +kernel, rfl, by decide +kernel, by decide +kernel⟩
end R

/-! part K04A -/
set_option Elab.async false
set_option linter.all false
set_option maxRecDepth 100000
set_option maxHeartbeats 4000000
namespace R
open PySem L2 RS
section
variable {P : Program} {w : World} {K : PySem.W.Frag} {mg : Str → Option Value} {base : Heap} {CX : CXT}
theorem ok_cell (F : Df K mg "_law_cell_at" ["script", "k"] s_law_cell_at) (B : Blt mg) : Fd P w K mg base CX "_law_cell_at" ["script", "k"] 1 (spCell K) := by
  refine F.ok sc_law_cell_at (fun vs H Q E h => ?_) (fun f cdv A outer s H vs Q E hr h => ?_)
  · obtain ⟨a, ns, k, rfl, _⟩ := h; rfl
  obtain ⟨a, ns, k, rfl, hS, h0, q⟩ := h
  have hl : (ns.map V.int).length = ns.length := List.length_map _
  refine wb_cons (ws_if (wt_lt (we_var 1 rfl (we_len B.len (we_var 0 rfl ⟨a, _, rfl, .inl hS, I2.mk ?_⟩)))))
  rw [hl]
  refine ifD (fun c => ?_) (fun c => ?_)
  · refine wb_one (ws_ret (we_ixL (we_var 0 rfl (we_var 1 rfl ⟨a, _, k, _, rfl, rfl, hS, at_int h0 c, ?_⟩))))
    have e : cellF ns k = ns.getD k.toNat 0 := by unfold cellF; rw [if_pos c]
    rw [← e]; exact q
  · refine wb_nil (wb_one (ws_ret (we_int ?_)))
    have e : cellF ns k = 0 := by unfold cellF; rw [if_neg c]
    rw [e] at q; exact q
theorem ok_draw (F : Df K mg "_law_draw" ["script", "k"] s_law_draw) (hCX : Strict CX) (G : Fd P w K mg base CX "_law_cell_at" ["script", "k"] 1 (spCell K)) : Fd P w K mg base CX "_law_draw" ["script", "k"] 2 (spDraw K) := by
  refine F.ok sc_law_draw (fun vs H Q E h => ?_) (fun f cdv A outer s H vs Q E hr h => ?_)
  · obtain ⟨a, ns, k, rfl, _⟩ := h; rfl
  obtain ⟨a, ns, k, rfl, hS, h0, q⟩ := h
  refine wb_cons (ws_set 2 sc_law_draw.nd (we_mod (we_mul (we_add (we_add (we_call G hr hCX.pass ?_))))))
  refine wa_cons (we_var 0 rfl (wa_cons (we_mod (we_var 1 rfl (we_int (I2.mk ⟨by decide, wa_nil ?_⟩))))))
  refine ⟨a, ns, k % 61, rfl, hS, Int.emod_nonneg _ (by decide), ?_⟩
  refine we_mul (we_int (we_var 1 rfl (I2.mk ⟨.inl ⟨by decide, by decide⟩, I2.mk ?_⟩)))
  refine we_int (I2.mk (we_int (I2.mk ⟨.inr ⟨by decide, by decide⟩, ?_⟩)))
  refine we_int (I2.mk ⟨by decide, ?_⟩)
  generalize hs1 : (cellF ns (k % 61) + 7919 * k + 104729) * 48271 % 2147483647 = s1
  have l1 : 0 ≤ s1 := by rw [← hs1]; exact Int.emod_nonneg _ (by decide)
  have u1 : s1 < 2147483647 := by rw [← hs1]; exact Int.emod_lt_of_pos _ (by decide)
  refine wb_cons (ws_set 2 sc_law_draw.nd (we_mod (we_mul (we_var 2 rfl (we_var 2 rfl (I2.mk ⟨.inl ⟨by omega, by omega⟩, ?_⟩))))))
  refine we_int (I2.mk ⟨by decide, ?_⟩)
  refine wb_one (ws_ret (we_fdiv (we_mod (we_mul (we_var 2 rfl (we_int (I2.mk ⟨.inr ⟨by decide, by decide⟩, ?_⟩)))))))
  refine we_int (I2.mk ⟨by decide, ?_⟩)
  refine we_int (I2.mk ⟨⟨by decide, by decide⟩, ?_⟩)
  have e : drawF ns k = s1 * s1 % 2147483647 * 16807 % 2147483647 / 8 := by unfold drawF; rw [hs1]
  rw [← e]; exact q
theorem ok_isWhole (F : Df K mg "is_whole_number" ["value"] s_is_whole_number) (B : Blt mg) : Fd P w K mg base CX "is_whole_number" ["value"] 1 spWhole := by
  refine F.ok sc_is_whole_number (fun vs H Q E h => ?_) (fun f cdv A outer s H vs Q E hr h => ?_)
  · obtain ⟨i, rfl, _⟩ := h; rfl
  obtain ⟨i, rfl, q⟩ := h
  refine wb_one (ws_ret (we_and (we_isT B.isinstance B.int bt_int (we_var 0 rfl ⟨_, true, .int i, kit_int_int K, B1.mk (ifT rfl ?_)⟩))))
  exact we_one (we_not (we_isT B.isinstance B.bool bt_bool (we_var 0 rfl ⟨_, false, .int i, kit_int_bool K, B1.mk q⟩)))
theorem ok_check (F : Df K mg "check_row" ["row"] s_check_row) (B : Blt mg) (hM : ∃ t, mg "MOST_HEIGHTS" = some (.int 30 t)) (hCX : Strict CX) (G : Fd P w K mg base CX "is_whole_number" ["value"] 1 spWhole) :
    Fd P w K mg base CX "check_row" ["row"] 2 spCheck := by
  obtain ⟨tM, hM⟩ := hM
  refine F.ok sc_check_row (fun vs H Q E h => ?_) (fun f cdv A outer s H vs Q E hr h => ?_)
  · obtain ⟨a, ns, rfl, _⟩ := h; rfl
  obtain ⟨a, ns, rfl, hA, h1, h2, hnd, q⟩ := h
  have hl : (ns.map V.int).length = ns.length := List.length_map _
  refine wb_cons (ws_if (wt_not (wt_val (we_isT B.isinstance B.list bt_list (we_var 0 rfl ⟨_, true, .lst hA, kit_list_list K, B1.mk (ifF (by decide) (wb_nil ?_))⟩)))))
  refine wb_cons (ws_if (WW.wt (ww_or (wt_lt (we_len B.len (we_var 0 rfl ⟨a, _, rfl, .inl (SqL.of hA), we_int (I2.mk ?_)⟩))))))
  rw [hl]
  refine ifD (fun c => absurd c (by omega)) (fun c => ?_)
  refine ww_or1 (wt_gt (we_len B.len (we_var 0 rfl ⟨a, _, rfl, .inl (SqL.of hA), we_glob (v := .int 30) hM ⟨tM, rfl⟩ (I2.mk ?_)⟩)))
  rw [hl]
  refine ifD (fun c => absurd c (by omega)) (fun c => wb_nil ?_)
  refine wb_cons (ws_if (wt_not (wt_val (we_all rfl B.all (we_compJ ["row"] (defScope s_check_row) [] (by decide +kernel) (wi_list (we_var 0 rfl ⟨a, rfl, ⟨_, SqL.of hA⟩, ?_⟩)))))))
  refine compP_list (f := fun _ => V.bl true) (p := fun _ => true) (SqL.of hA) (by omega) (fun x H1 hx s1 => ⟨Same.refl _, rfl, fun _ cl C s0 H0 fp => ?_⟩) (fun D H1 hD s1 e1 => ?_)
  · obtain ⟨i, _, rfl⟩ := List.mem_map.mp hx
    exact we_call G hr hCX.pass (wa_cons (we_var 0 rfl (wa_nil ⟨i, rfl, Same.refl _, rfl⟩)))
  rw [map_true] at e1
  refine ⟨D, _, rfl, SqL.of e1, ?_⟩
  rw [all_true]
  refine B1.mk (ifF (by decide) (wb_nil ?_))
  refine wb_one (ws_if (wt_lt (we_lenSet rfl B.len B.set (we_var 0 rfl ⟨a, ns, rfl, SqL.of (s1 _ _ hA), by omega, fun H2 s2 => ?_⟩))))
  refine we_len B.len (we_var 0 rfl ⟨a, _, rfl, .inl (SqL.of (s2 _ _ (s1 _ _ hA))), I2.mk ?_⟩)
  rw [hl, unl_nodup hnd]
  exact ifD (fun c => absurd c (by omega)) (fun c => wb_nil (q H2 (s1.trans s2)))
/-! ### has_each_once -/
theorem ok_each (F : Df K mg "has_each_once" ["heights", "many"] s_has_each_once) (B : Blt mg) (hCX : Strict CX) (G : Fd P w K mg base CX "is_whole_number" ["value"] 1 spWhole) : Fd P w K mg base CX "has_each_once" ["heights", "many"] 2 (spEach K) := by
  refine F.ok sc_has_each_once (fun vs H Q E h => ?_) (fun f cdv A outer s H vs Q E hr h => ?_)
  · obtain ⟨a, ns, m, rfl, _⟩ := h; rfl
  obtain ⟨a, ns, m, rfl, hA, hz, hm, q⟩ := h
  refine wb_one (ws_ret (we_and (we_all rfl B.all (we_compJ N_has_each_once (defScope s_has_each_once) [] (by decide +kernel) (wi_list (we_var 0 rfl ⟨a, rfl, ⟨_, hA⟩, ?_⟩))))))
  refine compP_list (f := fun _ => V.bl true) (p := fun _ => true) hA (by rw [List.length_map]; omega) (fun x H1 hx s1 => ⟨Same.refl _, rfl, fun _ cl C s0 H0 fp => ?_⟩) (fun D H1 hD s1 e1 => ?_)
  · obtain ⟨i, _, rfl⟩ := List.mem_map.mp hx
    exact we_call G hr hCX.pass (wa_cons (we_var 0 rfl (wa_nil ⟨i, rfl, Same.refl _, rfl⟩)))
  rw [map_true] at e1
  refine ⟨D, _, rfl, SqL.of e1, ?_⟩
  rw [all_true]
  refine B1.mk (ifT rfl (we_one (we_cmp (op_eqI hr.u8) (nomark _) (we_sorted B.sorted (we_var 0 rfl ⟨a, ns, rfl, s1.seq hA, hz, fun r ns' hr' hp hs => ?_⟩)))))
  refine we_listRange2 rfl B.list B.range (we_int (we_add (we_var 1 rfl (we_int (I2.mk ⟨1, _, rfl, rfl, by decide, by decide, by omega, by omega, by omega, fun r2 H2 hr2 s2 e2 => ?_⟩)))))
  rw [show ((m : Int) + 1 - 1).toNat = m by omega, ← whole_ups] at e2
  refine ⟨r, r2, ns', whole m, rfl, rfl, SqL.of (s2 _ _ upd_same), SqL.of e2, ?_⟩
  show Q (.bl (decide (ns' = whole m))) H2
  rw [each_iff hp hs]
  exact q H2 (s1.trans ((same_upd hr' _).trans s2))
/-! ### check_whole_row, of a whole row -/
theorem ok_checkw (F : Df K mg "check_whole_row" ["row"] s_check_whole_row) (B : Blt mg) (hCX : Strict CX) (G : Fd P w K mg base CX "check_row" ["row"] 2 spCheck) (G2 : Fd P w K mg base CX "has_each_once" ["heights", "many"] 2 (spEach K)) :
    Fd P w K mg base CX "check_whole_row" ["row"] 3 spCheckW := by
  refine F.ok sc_check_whole_row (fun vs H Q E h => ?_) (fun f cdv A outer s H vs Q E hr h => ?_)
  · obtain ⟨a, ns, m, rfl, _⟩ := h; rfl
  obtain ⟨a, ns, m, rfl, hA, hp, h1, h2, q⟩ := h
  have hl : ns.length = m := by rw [hp.length_eq, whole_length]
  refine wb_cons (ws_expr (we_call G hr hCX.pass (wa_cons (we_var 0 rfl (wa_nil ⟨a, ns, rfl, hA, by omega, by omega, nodup_of_perm hp (whole_nodup m), fun H1 s1 => ?_⟩)))))
  refine wb_one (ws_if (wt_not (wt_val (we_call G2 hr hCX.pass (wa_cons (we_var 0 rfl (wa_cons (we_len B.len (we_var 0 rfl ⟨a, _, rfl, .inl (SqL.of (s1 _ _ hA)), wa_nil ⟨a, ns, m, by rw [List.length_map, hl], SqL.of (s1 _ _ hA), by omega, by omega, fun H2 s2 => ?_⟩⟩)))))))))
  rw [decide_eq_true hp]
  exact B1.mk (ifF (by decide) (wb_nil (q H2 (s1.trans s2))))
theorem ok_along (F : Df K mg "seen_along" ["row", "places"] s_seen_along) (B : Blt mg) : Fd P w K mg base CX "seen_along" ["row", "places"] 1 (spAlong K) := by
  refine F.ok sc_seen_along (fun vs H Q E h => ?_) (fun f cdv A outer s H vs Q E hr h => ?_)
  · obtain ⟨a, b, ns, ps, rfl, _⟩ := h; rfl
  obtain ⟨a, b, ns, ps, rfl, hS, hP, hin, hz, q⟩ := h
  refine wb_cons (ws_set 2 sc_seen_along.nd (we_lst (wa_nil ⟨Nat.zero_le _, fun p hp => ?_⟩)))
  have hs0 : Hs H (upd H p (.lst [])) [(p, .lst [])] := (Hs.start H).alloc hp
  refine wb_cons (ws_for 3 sc_seen_along.nd PassesOwn.never rfl (wi_list (we_var 1 rfl ⟨b, rfl, ⟨_, hs0.seq hP⟩, ?_⟩)))
  refine wf_list (xs := pls ps) (fun i σ' H' => ∃ pl, σ' = [some (.ref a), some (.ref b), some (.ref p), pl] ∧ Hs H H' [(p, .lst (pls (along ns (ps.take i))))])
    ⟨none, rfl, hs0⟩ (fun i σ' H' _ ⟨pl, e, hs⟩ => hs.seq hP) (fun i x σ' H' hx ⟨pl, e, hs⟩ => ?_) (fun σ' H' ⟨pl, e, hs⟩ => ?_)
  · subst e
    have hi : i < ps.length := by have := (List.getElem?_eq_some_iff.mp hx).1; rw [pls_length] at this; exact this
    have ex : x = .int ((ps[i] : Nat) : Int) := by
      unfold pls at hx
      rw [List.getElem?_map, List.getElem?_eq_getElem hi] at hx
      exact (Option.some.inj hx).symm
    subst ex
    have et : ps.take (i + 1) = ps.take i ++ [ps[i]] := by rw [List.take_add_one, List.getElem?_eq_getElem hi]; rfl
    have hm : ps[i] < ns.length := hin _ (List.getElem_mem hi)
    have hlen : (pls (along ns (ps.take i))).length < sizeLine := by
      rw [pls_length]
      refine small1000 (Nat.le_trans (along_len ns (ps.take i) []) ?_)
      simp; omega
    have add : WB (cxOf CX P w K mg base ["row", "places", "seen", "place"] "seen_along" (defScope s_seen_along) f cdv A outer s H E).nox [] (fun _ _ => True) Q (fun _ _ => False) (fun _ _ => False) [] H := wb_nil trivial
    refine wb_one (ws_if (WW.wt (ww_or (wt_not (wt_truth (we_var 2 rfl ⟨_, .inl ⟨_, SqL.of (hs.get 0 rfl), rfl⟩, ?_⟩))))))
    have step : ∀ c : Prop, along1 ns (along ns (ps.take i)) ps[i] = along ns (ps.take i) ++ [ps[i]] → Hs H (upd H' p (.lst (pls (along ns (ps.take i)) ++ [.int ((ps[i] : Nat) : Int)]))) [(p, .lst (pls (along ns (ps.take (i + 1)))))] := fun _ ea => by
      rw [et, along_snoc, ea, pls_append]
      exact hs.write (o' := .lst (pls (along ns (ps.take i)) ++ [.int ((ps[i] : Nat) : Int)])) 0 rfl
    cases hgl : (along ns (ps.take i)).getLast? with
    | none =>
      have e0 : along ns (ps.take i) = [] := by simpa using hgl
      have ea : along1 ns (along ns (ps.take i)) ps[i] = along ns (ps.take i) ++ [ps[i]] := by unfold along1; rw [hgl]
      refine ifT (by rw [e0]; rfl) (ifT rfl ?_)
      exact wb_one (ws_expr (we_append (we_var 2 rfl ⟨p, rfl, ⟨_, SqL.of (hs.get 0 rfl)⟩, we_var 3 rfl ⟨_, hs.get 0 rfl, hlen, _, rfl, step True ea⟩⟩)))
    | some l =>
      obtain ⟨ini, hini⟩ : ∃ ini, along ns (ps.take i) = ini ++ [l] := by
        rw [List.getLast?_eq_some_iff] at hgl
        exact hgl
      have hlm : l < ns.length := by
        have : l ∈ along ns (ps.take i) := by rw [hini]; simp
        rcases along_mem ns (ps.take i) [] l this with z | z
        · simp at z
        · exact hin l (List.mem_of_mem_take z)
      have hlast : atI (pls (along ns (ps.take i))) (-1) = some (.int ((l : Nat) : Int)) := by rw [hini, pls_append]; exact atI_last _ _
      refine ifF (by rw [hini]; simp [pls]) ?_
      refine ww_or1 (wt_gt (we_ixL (we_var 0 rfl (we_var 3 rfl ⟨a, _, _, _, rfl, rfl, hs.seq hS, at_int (by omega) (by omega), ?_⟩))))
      refine we_ixL (we_var 0 rfl (we_ixL (we_var 2 rfl (we_neg (we_int ⟨_, rfl, p, _, _, _, rfl, rfl, SqL.of (hs.get 0 rfl), hlast, ?_⟩)))))
      refine ⟨a, _, _, _, rfl, rfl, hs.seq hS, at_int (by omega) (by omega), I2.mk ?_⟩
      rw [show (((ps[i] : Nat) : Int)).toNat = ps[i] by omega, show (((l : Nat) : Int)).toNat = l by omega]
      refine ifD (fun c => ?_) (fun c => ?_)
      · have ea : along1 ns (along ns (ps.take i)) ps[i] = along ns (ps.take i) ++ [ps[i]] := by unfold along1; rw [hgl]; exact if_pos c
        exact wb_one (ws_expr (we_append (we_var 2 rfl ⟨p, rfl, ⟨_, SqL.of (hs.get 0 rfl)⟩, we_var 3 rfl ⟨_, hs.get 0 rfl, hlen, _, rfl, step True ea⟩⟩)))
      · have ea : along1 ns (along ns (ps.take i)) ps[i] = along ns (ps.take i) := by unfold along1; rw [hgl]; exact if_neg c
        refine wb_nil ⟨_, rfl, ?_⟩
        rw [et, along_snoc, ea]
        exact hs
  · subst e
    have hs' : Hs H H' [(p, .lst (pls (along ns ps)))] := by
      have := hs
      rw [pls_length, List.take_length] at this
      exact this
    exact wb_one (ws_ret (we_var 2 rfl (q p _ hp hs'.same (hs'.get 0 rfl))))
theorem ok_front (F : Df K mg "front" ["row"] s_front) (B : Blt mg) (hCX : Strict CX) (G : Fd P w K mg base CX "check_row" ["row"] 2 spCheck) (G2 : Fd P w K mg base CX "seen_along" ["row", "places"] 1 (spAlong K)) :
    Fd P w K mg base CX "front" ["row"] 3 (spPart seenF) := by
  refine F.ok sc_front (fun vs H Q E h => ?_) (fun f cdv A outer s H vs Q E hr h => ?_)
  · obtain ⟨a, ns, rfl, _⟩ := h; rfl
  obtain ⟨a, ns, rfl, hA, h1, h2, hnd, q⟩ := h
  refine wb_cons (ws_expr (we_call G hr hCX.pass (wa_cons (we_var 0 rfl (wa_nil ⟨a, ns, rfl, hA, h1, h2, hnd, fun H1 s1 => ?_⟩)))))
  have hA1 := s1 _ _ hA
  refine wb_one (ws_ret (we_call G2 hr hCX.pass (wa_cons (we_var 0 rfl (wa_cons (we_listRange1 rfl B.list B.range (we_len B.len (we_var 0 rfl ⟨a, _, rfl, .inl (SqL.of hA1), _, rfl, ?_, ?_, fun r H2 hr2 s2 e2 => wa_nil ?_⟩))))))))
  · rw [List.length_map]; omega
  · rw [List.length_map]; omega
  · rw [List.length_map, show ((ns.length : Int)).toNat = ns.length by omega, ups_pls] at e2
    refine ⟨a, r, ns, List.range ns.length, rfl, SqL.of (s2 _ _ hA1), SqL.of e2, fun p hp => List.mem_range.mp hp, by rw [List.length_range]; omega, fun r3 H3 hr3 s3 e3 => ?_⟩
    rw [along_range] at e3
    exact q r3 H3 ((s1.trans s2).free hr3) (s1.trans (s2.trans s3)) e3
/-! ### rings_of -/
theorem ok_rings (F : Df K mg "rings_of" ["row"] s_rings_of) (B : Blt mg) (hCX : Strict CX) (G : Fd P w K mg base CX "check_whole_row" ["row"] 3 spCheckW) (G2 : Fd P w K mg base CX "front" ["row"] 3 (spPart seenF)) : Fd P w K mg base CX "rings_of" ["row"] 4 spRings := by
  refine F.ok sc_rings_of (fun vs H Q E h => ?_) (fun f cdv A outer s H vs Q E hr h => ?_)
  · obtain ⟨a, ns, m, rfl, _⟩ := h; rfl
  obtain ⟨a, ns, m, rfl, hA, hp, h1, h2, q⟩ := h
  have hlen : ns.length = m := by rw [hp.length_eq, whole_length]
  have hl : (ns.map V.int).length = ns.length := List.length_map _
  have hnd := nodup_of_perm hp (whole_nodup m)
  have sl : (seenF ns).length ≤ ns.length := Nat.le_trans (List.length_filter_le _ _) (by rw [List.length_range]; exact Nat.le_refl _)
  have sin : ∀ p ∈ seenF ns, p < ns.length := fun p hp => by unfold seenF at hp; exact List.mem_range.mp (List.mem_filter.mp hp).1
  refine wb_cons (ws_expr (we_call G hr hCX.pass (wa_cons (we_var 0 rfl (wa_nil ⟨a, ns, m, rfl, hA, hp, h1, h2, fun H1 s1 => ?_⟩)))))
  refine wb_cons (ws_set 1 sc_rings_of.nd (we_call G2 hr hCX.pass (wa_cons (we_var 0 rfl (wa_nil ⟨a, ns, rfl, s1 _ _ hA, by omega, by omega, hnd, fun r H2 hr2 s2 e2 => ?_⟩)))))
  have s12 := s1.trans s2
  have hA2 := s12 _ _ hA
  have k0 : 1 ≤ (seenF ns).length := by
    cases ns with
    | nil => simp at hlen; omega
    | cons x l => rw [seenF_len]; omega
  refine wb_cons (ws_set 2 sc_rings_of.nd (we_cat (we_sliceA (we_var 1 rfl (we_int ⟨_, rfl, r, _, rfl, SqL.of e2, fun p hp => ?_⟩)))))
  rw [show (1 : Int) = ((1 : Nat) : Int) from rfl, cutV_A _ 1 (by rw [pls_length]; omega)]
  have g1 := (Hs.start H2).alloc (o := .lst ((pls (seenF ns)).drop 1)) hp
  refine we_lst (wa_cons (we_len B.len (we_var 0 rfl ⟨a, _, rfl, .inl (SqL.of (g1.old hA2)), wa_nil ⟨by show 1 ≤ sizeLine; decide, fun p2 hp2 => ?_⟩⟩)))
  have g2 := g1.alloc (o := .lst [V.int ((ns.map V.int).length : Nat)]) hp2
  refine ⟨p, p2, _, _, rfl, rfl, g2.get 1 rfl, g2.get 0 rfl, small_list (by simp [pls_length]; omega), fun p3 hp3 => ?_⟩
  have g3 := g2.alloc (o := .lst ((pls (seenF ns)).drop 1 ++ [V.int ((ns.map V.int).length : Nat)])) hp3
  have e3 : (pls (seenF ns)).drop 1 ++ [V.int ((ns.map V.int).length : Nat)] = pls ((seenF ns).drop 1 ++ [ns.length]) := by
    rw [hl, pls_append]
    unfold pls
    rw [List.map_drop]; rfl
  rw [e3] at g3 ⊢
  refine wb_one (ws_ret (we_compJ2 N_rings_of (defScope s_rings_of) [0] (by decide +kernel) (wi_zip B.zip (wa_cons (we_var 1 rfl (wa_cons (we_var 2 rfl (wa_nil ⟨r, p3, rfl, ⟨_, SqL.of (g3.old e2)⟩, ⟨_, SqL.of (g3.get 0 rfl)⟩, ?_⟩))))))))
  refine compF_zip (T := fun p o => o = .lst (((ns.drop (unI p.1).toNat).take ((unI p.2).toNat - (unI p.1).toNat)).map V.int)) (SqL.of (g3.old e2)) (SqL.of (g3.get 0 rfl)) (by rw [pls_length]; omega) (fun i x y H4 hx hy s4 => ?_) (fun D H4 as hD s4 e4 hM => ?_)
  · unfold pls at hx hy
    rw [List.getElem?_map] at hx hy
    obtain ⟨u, hu, rfl⟩ := Option.map_eq_some_iff.mp hx
    obtain ⟨v, hv, rfl⟩ := Option.map_eq_some_iff.mp hy
    have hu' : u ≤ ns.length := Nat.le_of_lt (sin u (List.mem_of_getElem? hu))
    have hv' : v ≤ ns.length := by
      rcases List.mem_append.mp (List.mem_of_getElem? hv) with z | z
      · exact Nat.le_of_lt (sin v (List.mem_of_mem_drop z))
      · have : v = ns.length := by simpa using z
        omega
    intro cl C s0 H0 fp
    refine we_slice (we_var 2 rfl (we_var 0 rfl ⟨_, rfl, we_var 1 rfl ⟨_, rfl, a, _, rfl, SqL.of (s4 _ _ (g3.old hA2)), fun l5 hl5 => ⟨same_upd hl5 _, l5, _, rfl, hl5, upd_same, ?_⟩⟩⟩))
    rw [cutV_AB _ _ _ (by rw [hl]; exact hu') (by rw [hl]; exact hv'), ← List.map_drop, ← List.map_take]
    rfl
  · have hM2 : Made (fun (ring : List Int) o => o = .lst (ring.map V.int)) (upd (upd (upd H2 p (.lst ((pls (seenF ns)).drop 1))) p2 (.lst [V.int ((ns.map V.int).length : Nat)])) p3 (.lst (pls ((seenF ns).drop 1 ++ [ns.length])))) H4 D (cutsF ns) as := by
      have := made_map (T := fun (ring : List Int) o => o = .lst (ring.map V.int)) (f := fun p : V × V => (ns.drop (unI p.1).toNat).take ((unI p.2).toNat - (unI p.1).toNat)) hM
      have ec : ((pls (seenF ns)).zip (pls ((seenF ns).drop 1 ++ [ns.length]))).map (fun p : V × V => (ns.drop (unI p.1).toNat).take ((unI p.2).toNat - (unI p.1).toNat)) = cutsF ns := by
        unfold cutsF pls
        rw [List.zip_map, List.map_map]
        refine List.map_congr_left fun p _ => ?_
        obtain ⟨u, v⟩ := p
        rfl
      rw [ec] at this
      exact this
    have sAll := s12.trans g3.same
    exact q D H4 as (sAll.free hD) (sAll.trans s4) e4 ⟨hM2.pr, hM2.nd, fun b hb => ⟨sAll.free (hM2.new b hb).1, (hM2.new b hb).2⟩⟩
end
end R

/-! part K04B -/
set_option Elab.async false
set_option linter.all false
set_option maxRecDepth 100000
set_option maxHeartbeats 4000000
namespace R
open PySem L2 RS
section
variable {P : Program} {w : World} {K : PySem.W.Frag} {mg : Str → Option Value} {base : Heap} {CX : CXT}
/-! ### joined, check_rings, begun_at_greatest, row_of -/
theorem ok_joined (F : Df K mg "joined" ["rings"] s_joined) : Fd P w K mg base CX "joined" ["rings"] 1 spJoin := by
  refine F.ok sc_joined (fun vs H Q E h => ?_) (fun f cdv A outer s H vs Q E hr h => ?_)
  · obtain ⟨q, S, rfl, _⟩ := h; rfl
  obtain ⟨rg, S, rfl, ⟨as, hA, hR⟩, hz, q⟩ := h
  have hal := Prd.len hR
  refine wb_cons (ws_set 1 sc_joined.nd (we_lst (wa_nil ⟨Nat.zero_le _, fun p hp => ?_⟩)))
  refine wb_cons (ws_for 2 sc_joined.nd PassesOwn.never rfl (wi_list (we_var 0 rfl ⟨rg, rfl, ⟨_, SqL.of (same_upd hp _ _ _ hA)⟩, ?_⟩)))
  refine wf_list (xs := as.map V.ref) (fun i σ' H' => ∃ v2, σ' = [some (.ref rg), some (.ref p), v2] ∧ Same H H' ∧ H' p = some (.lst ((S.take i).flatten.map V.int)))
    ⟨none, rfl, same_upd hp _, upd_same⟩ (fun i σ' H' _ ⟨v2, e, sm, ep⟩ => SqL.of (sm _ _ hA)) (fun i x σ' H' hx ⟨v2, e, sm, ep⟩ => ?_) (fun σ' H' ⟨v2, e, sm, ep⟩ => ?_)
  · subst e
    rw [List.getElem?_map] at hx
    cases ha : as[i]? with
    | none => rw [ha] at hx; cases hx
    | some a =>
      rw [ha] at hx
      have ex : V.ref a = x := Option.some.inj hx
      subst ex
      obtain ⟨r, er, ea⟩ := Prd.get hR ha
      have et : (S.take (i + 1)).flatten = (S.take i).flatten ++ r := by rw [List.take_add_one, er, List.flatten_append]; simp
      have hle : (S.take (i + 1)).flatten.length ≤ S.flatten.length := by
        have e := congrArg List.flatten (List.take_append_drop (i + 1) S)
        rw [List.flatten_append] at e
        rw [← e, List.length_append]; omega
      rw [et, List.length_append] at hle
      refine wb_one (ws_expr (we_extend (we_var 1 rfl ⟨p, rfl, ⟨_, SqL.of ep⟩, we_var 2 rfl ⟨a, _, _, rfl, ep, sm _ _ ea, small_list (by rw [List.length_map, List.length_map]; omega), _, rfl, same_new sm hp, ?_⟩⟩)))
      rw [upd_same, et, List.map_append]
  · subst e
    rw [List.length_map, ← hal, List.take_length] at ep
    exact wb_one (ws_ret (we_var 1 rfl (q p H' hp sm ep)))
theorem ok_checkRg (F : Df K mg "check_rings" ["rings"] s_check_rings) (B : Blt mg) (hM : ∃ t, mg "MOST_HEIGHTS" = some (.int 30 t)) (hCX : Strict CX) (G : Fd P w K mg base CX "joined" ["rings"] 1 spJoin) (G2 : Fd P w K mg base CX "has_each_once" ["heights", "many"] 2 (spEach K)) : Fd P w K mg base CX "check_rings" ["rings"] 3 spCheckRg := by
  obtain ⟨tM, hM⟩ := hM
  refine F.ok sc_check_rings (fun vs H Q E h => ?_) (fun f cdv A outer s H vs Q E hr h => ?_)
  · obtain ⟨q, S, m, rfl, _⟩ := h; rfl
  obtain ⟨rg, S, m, rfl, ⟨as, hA, hR⟩, ok, q⟩ := h
  have hal := Prd.len hR
  have hfew := ok.few
  have hm1 := ok.2.2.1
  have hm2 := ok.2.2.2
  have hfl := ok.len
  have eall : ((as.map fun _ => true).all id) = true := by rw [List.all_map]; exact List.all_eq_true.mpr fun _ _ => rfl
  refine wb_cons (ws_if (WW.wt (ww_or (wt_not (wt_val (we_isT B.isinstance B.list bt_list (we_var 0 rfl ⟨_, true, .lst hA, kit_list_list K, B1.mk (ifF (by decide) ?_)⟩)))))))
  refine ww_or1 (wt_not (wt_val (we_all rfl B.all (we_compJ N_check_rings (defScope s_check_rings) [] (by decide +kernel) (wi_list (we_var 0 rfl ⟨rg, rfl, ⟨_, SqL.of hA⟩, ?_⟩))))))
  refine compP_list (f := fun _ => V.bl true) (p := fun _ => true) (SqL.of hA) (by rw [List.length_map]; omega) (fun x H1 hx s1 => ⟨Same.refl _, rfl, fun _ cl C s0 H0 fp => ?_⟩) (fun D H1 hD s1 e1 => ?_)
  · obtain ⟨c, r, rfl, _, he⟩ := hR.mem hx
    exact we_isT B.isinstance B.list bt_list (we_var 0 rfl ⟨_, true, .lst (s1 _ _ he), kit_list_list K, Same.refl _, rfl⟩)
  have e1' : H1 D = some (.lst ((as.map fun _ => true).map V.bl)) := by rw [e1, filter_all, List.map_map, List.map_map]; rfl
  refine ⟨D, _, rfl, SqL.of e1', ?_⟩
  rw [eall]
  refine B1.mk (ifF (by decide) (wb_nil ?_))
  have hA1 := s1 _ _ hA
  refine wb_cons (ws_if (wt_not (wt_val (we_all rfl B.all (we_compJ N_check_rings (defScope s_check_rings) [] (by decide +kernel) (wi_list (we_var 0 rfl ⟨rg, rfl, ⟨_, SqL.of hA1⟩, ?_⟩)))))))
  refine compP_list (f := fun _ => V.bl true) (p := fun _ => true) (SqL.of hA1) (by rw [List.length_map]; omega) (fun x H2 hx s2 => ⟨Same.refl _, rfl, fun _ cl C s0 H0 fp => ?_⟩) (fun D2 H2 hD2 s2 e2 => ?_)
  · obtain ⟨c, r, rfl, hm, he⟩ := hR.mem hx
    have h0 : 0 < r.length := List.length_pos_iff.mpr (ok.1 r hm)
    refine we_gt (we_len B.len (we_var 0 rfl ⟨c, _, rfl, .inl (SqL.of (s2 _ _ (s1 _ _ he))), we_int (I2.mk ⟨Same.refl _, ?_⟩)⟩))
    rw [List.length_map, decide_eq_true (by omega)]
  have e2' : H2 D2 = some (.lst ((as.map fun _ => true).map V.bl)) := by rw [e2, filter_all, List.map_map, List.map_map]; rfl
  refine ⟨D2, _, rfl, SqL.of e2', ?_⟩
  rw [eall]
  refine B1.mk (ifF (by decide) (wb_nil ?_))
  have s02 := s1.trans s2
  refine wb_cons (ws_set 1 sc_check_rings.nd (we_call G hr hCX.pass (wa_cons (we_var 0 rfl (wa_nil ⟨rg, S, rfl, ⟨as, s02 _ _ hA, hR.same s02⟩, by omega, fun r3 H3 hr3 s3 e3 => ?_⟩)))))
  have l3 : (S.flatten.map V.int).length = m := by rw [List.length_map]; exact hfl
  refine wb_cons (ws_if (WW.wt (ww_or (wt_lt (we_len B.len (we_var 1 rfl ⟨r3, _, rfl, .inl (SqL.of e3), we_int (I2.mk ?_)⟩))))))
  rw [l3]
  refine ifD (fun c => absurd c (by omega)) (fun _ => ?_)
  refine ww_or1 (wt_gt (we_len B.len (we_var 1 rfl ⟨r3, _, rfl, .inl (SqL.of e3), we_glob (v := .int 30) hM ⟨tM, rfl⟩ (I2.mk ?_)⟩)))
  rw [l3]
  refine ifD (fun c => absurd c (by omega)) (fun _ => wb_nil ?_)
  refine wb_one (ws_if (wt_not (wt_val (we_call G2 hr hCX.pass (wa_cons (we_var 1 rfl (wa_cons (we_len B.len (we_var 1 rfl ⟨r3, _, rfl, .inl (SqL.of e3), ?_⟩)))))))))
  rw [l3]
  refine wa_nil ⟨r3, S.flatten, m, rfl, SqL.of e3, by omega, by omega, fun H4 s4 => B1.mk ?_⟩
  rw [decide_eq_true ok.2.1]
  exact ifF (by decide) (wb_nil (q H4 ((s02.trans s3).trans s4)))
theorem ok_begun (F : Df K mg "begun_at_greatest" ["ring"] s_begun_at_greatest) (B : Blt mg) : Fd P w K mg base CX "begun_at_greatest" ["ring"] 1 spBegun := by
  refine F.ok sc_begun_at_greatest (fun vs H Q E h => ?_) (fun f cdv A outer s H vs Q E hr h => ?_)
  · obtain ⟨a, ns, rfl, _⟩ := h; rfl
  obtain ⟨a, ns, rfl, hA, hne, hz, q⟩ := h
  have hk := find_mx hne
  have hge := List.findIdx_getElem (w := hk)
  have hlt : ∀ i, (h : i < ns.findIdx fun x => decide (x = mxI ns)) → ns.getD i 0 ≠ mxI ns := fun i h => by
    have := List.not_of_lt_findIdx h
    rw [List.getD_eq_getElem?_getD, List.getElem?_eq_getElem (by omega)]
    simpa using this
  have hbeg : begF ns = ns.drop (ns.findIdx fun x => decide (x = mxI ns)) ++ ns.take (ns.findIdx fun x => decide (x = mxI ns)) := rfl
  generalize (ns.findIdx fun x => decide (x = mxI ns)) = k at hk hge hlt hbeg
  obtain ⟨x, l, rfl⟩ : ∃ x l, ns = x :: l := by
    cases ns with
    | nil => exact absurd rfl hne
    | cons x l => exact ⟨x, l, rfl⟩
  refine wb_cons (ws_set 1 sc_begun_at_greatest.nd (we_index (we_var 0 rfl ⟨a, rfl, ⟨_, SqL.of hA⟩, we_maxL rfl B.max (we_var 0 rfl ⟨a, x, l, rfl, SqL.of hA, a, (x :: l).map V.int, _, k, .int ((x :: l).getD k 0), rfl, rfl, hA, rfl, flat_ints _, ?_, ?_, fun i w hi hw => ?_, by rw [List.length_map]; omega, ?_⟩)⟩)))
  · rw [List.getElem?_map, List.getD_eq_getElem?_getD, List.getElem?_eq_getElem hk]; rfl
  · show ((x :: l).getD k 0 == l.foldl max x) = true
    rw [List.getD_eq_getElem?_getD, List.getElem?_eq_getElem hk]
    have : (x :: l)[k] = mxI (x :: l) := by simpa using hge
    show ((x :: l)[k] == l.foldl max x) = true
    rw [this]; exact beq_self_eq_true _
  · have hil : i < (x :: l).length := by omega
    rw [List.getElem?_map, List.getElem?_eq_getElem hil] at hw
    have : V.int (x :: l)[i] = w := Option.some.inj hw
    subst this
    have h2 := hlt i hi
    rw [List.getD_eq_getElem?_getD, List.getElem?_eq_getElem hil] at h2
    show ((x :: l)[i] == l.foldl max x) = false
    exact beq_false_of_ne h2
  · refine wb_one (ws_ret (we_turn (k := k) hA (by rw [List.length_map]; omega) (by rw [List.length_map]; omega) (fun H' _ => we_var 0 rfl ⟨rfl, rfl⟩) (fun H' _ => we_var 1 rfl ⟨rfl, rfl⟩) (fun H' _ => we_var 0 rfl ⟨rfl, rfl⟩) (fun H' _ => we_var 1 rfl ⟨rfl, rfl⟩) fun r H' hr s' e' => q r H' hr s' ?_))
    rw [e', turn_map, hbeg]
theorem ok_rowof (F : Df K mg "row_of" ["rings"] s_row_of) (B : Blt mg) (hCX : Strict CX) (Gc : Fd P w K mg base CX "check_rings" ["rings"] 3 spCheckRg) (Gj : Fd P w K mg base CX "joined" ["rings"] 1 spJoin) (Gb : Fd P w K mg base CX "begun_at_greatest" ["ring"] 1 spBegun) : Fd P w K mg base CX "row_of" ["rings"] 4 spRowOf := by
  refine F.ok sc_row_of (fun vs H Q E h => ?_) (fun f cdv A outer s H vs Q E hr h => ?_)
  · obtain ⟨q, S, m, rfl, _⟩ := h; rfl
  obtain ⟨rg, S, m, rfl, hS, ok, q⟩ := h
  have hfew := ok.few
  have hm2 := ok.2.2.2
  refine wb_cons (ws_expr (we_call Gc hr hCX.pass (wa_cons (we_var 0 rfl (wa_nil ⟨rg, S, m, rfl, hS, ok, fun H1 s1 => ?_⟩)))))
  obtain ⟨as, hA, hR⟩ := hS.same s1
  have hal := Prd.len hR
  refine wb_one (ws_ret (we_call Gj hr hCX.pass (wa_cons (we_sortedL hr.u8 B.sorted (we_compJ N_row_of (defScope s_row_of) [] (by decide +kernel) (wi_list (we_var 0 rfl ⟨rg, rfl, ⟨_, SqL.of hA⟩, ?_⟩)))))))
  refine compF_list (T := fun v o => o = .lst ((begF (rowOf H1 v)).map V.int)) (p := fun _ => true) (SqL.of hA) (by rw [List.length_map]; omega) (fun x H2 hx s2 => ⟨Same.refl _, rfl, fun _ cl C s0 H0 fp => ?_⟩) (fun D H2 cs hD s2 e2 hM => ?_)
  · obtain ⟨c, r, rfl, hm, he⟩ := hR.mem hx
    have := ok.row hm
    exact we_call Gb hr hCX.pass (wa_cons (we_var 0 rfl (wa_nil ⟨c, r, rfl, s2 _ _ he, ok.1 r hm, by omega, fun r3 H3 hr3 s3 e3 => ⟨s3, r3, _, rfl, hr3, e3, by rw [rowOf_eq he]⟩⟩)))
  have hC : RwsA H2 (((as.map V.ref).filter fun _ => true).map fun v => begF (rowOf H1 v)) cs := RwsA.of_made (g := fun v => begF (rowOf H1 v)) hM
  rw [filter_all, hR.refs begF] at hC
  refine ⟨D, cs, S.map begF, rfl, e2, hC, begs_ne ok.1, begs_heads ok, by rw [List.length_map]; omega, fun l bs' S' hl hp hso hR' => ?_⟩
  have s3 := same_upd hl (.lst (bs'.map V.ref))
  have hfl : S'.flatten.length = m := by
    have h1 : S'.flatten.Perm (S.map begF).flatten := hp.flatten
    rw [h1.length_eq, (flat_map_perm beg_perm S).length_eq, ok.len]
  refine wa_nil ⟨l, S', rfl, ⟨bs', upd_same, hR'.same s3⟩, by omega, fun r H4 hr4 s4 e4 => ?_⟩
  have s02 := s1.trans s2
  exact q r H4 S' (s02.free (s3.free hr4)) ((s02.trans s3).trans s4) hp hso e4
/-! ### behind -/
theorem ok_behind (F : Df K mg "behind" ["rings"] s_behind) (B : Blt mg) (hCX : Strict CX) (Gc : Fd P w K mg base CX "check_rings" ["rings"] 3 spCheckRg) : Fd P w K mg base CX "behind" ["rings"] 4 spBehind := by
  refine F.ok sc_behind (fun vs H Q E h => ?_) (fun f cdv A outer s H vs Q E hr h => ?_)
  · obtain ⟨q, S, m, rfl, _⟩ := h; rfl
  obtain ⟨rg, S, m, rfl, hS, ok, q⟩ := h
  have hfew := ok.few
  have hm2 := ok.2.2.2
  have hnd := ok.nodup
  have hfl := ok.len
  refine wb_cons (ws_expr (we_call Gc hr hCX.pass (wa_cons (we_var 0 rfl (wa_nil ⟨rg, S, m, rfl, hS, ok, fun H1 s1 => ?_⟩)))))
  obtain ⟨as, hA, hR⟩ := hS.same s1
  have hal := Prd.len hR
  refine wb_cons (ws_set 1 sc_behind.nd (we_dnew fun d hd => ?_))
  have hA0 := same_upd hd (.dK []) _ _ hA
  refine wb_cons (ws_for 2 sc_behind.nd PassesOwn.never rfl (wi_list (we_var 0 rfl ⟨rg, rfl, ⟨_, SqL.of hA0⟩, ?_⟩)))
  refine wf_list (xs := as.map V.ref) (fun i σ' H' => ∃ v2 v3 v4, σ' = [some (.ref rg), some (.ref d), v2, v3, v4] ∧ Same H1 H' ∧ H' d = some (.dK (encP (prsS (S.take i)))))
    ⟨none, none, none, rfl, same_upd hd _, upd_same⟩ (fun i σ' H' _ ⟨v2, v3, v4, es, sm, ed⟩ => SqL.of (sm _ _ hA)) (fun i x σ' H2 hx ⟨v2, v3, v4, es, s2, ed⟩ => ?_) (fun σ' H2 ⟨v2, v3, v4, es, s2, ed⟩ => ?_)
  · subst es
    rw [List.getElem?_map] at hx
    cases ha : as[i]? with
    | none => rw [ha] at hx; cases hx
    | some a =>
      rw [ha] at hx
      have ex : V.ref a = x := Option.some.inj hx
      subst ex
      obtain ⟨ring, er, ea⟩ := Prd.get hR ha
      have hrl := ok.row (List.mem_of_getElem? er)
      have hrp : 0 < ring.length := List.length_pos_iff.mpr (ok.1 _ (List.mem_of_getElem? er))
      have ea2 := s2 _ _ ea
      refine wb_one (ws_for2 3 4 sc_behind.nd PassesOwn.never rfl (wi_zip B.zip (wa_cons (we_var 2 rfl (wa_cons (we_turn (k := 1) ea2 (by rw [List.length_map]; omega) (by rw [List.length_map]; omega) (fun H' _ => we_var 2 rfl ⟨rfl, rfl⟩) (fun H' _ => we_int ⟨rfl, rfl⟩) (fun H' _ => we_var 2 rfl ⟨rfl, rfl⟩) (fun H' _ => we_int ⟨rfl, rfl⟩) fun t H3 ht s3 e3 => ?_))))))
      rw [turn_map] at e3
      refine wa_nil ⟨a, t, rfl, ⟨_, SqL.of (s3 _ _ ea2)⟩, ⟨_, SqL.of e3⟩, ?_⟩
      have hmin : min (ring.map V.int).length ((ring.drop 1 ++ ring.take 1).map V.int).length = ring.length := by rw [List.length_map, List.length_map, turn_len]; omega
      have ea3 := s3 _ _ ea2
      have hd3 : t ≠ d := fun z => by rw [z, ed] at ht; cases ht
      have had : a ≠ d := fun z => by rw [z, hd] at ea; cases ea
      refine wf_zip (xs := ring.map V.int) (ys := (ring.drop 1 ++ ring.take 1).map V.int) (fun j σ' H' => ∃ v3 v4, σ' = [some (.ref rg), some (.ref d), some (.ref a), v3, v4] ∧ Same H1 H' ∧ H' a = some (.lst (ring.map V.int)) ∧ H' t = some (.lst ((ring.drop 1 ++ ring.take 1).map V.int)) ∧ H' d = some (.dK (encP (prsS (S.take i) ++ (prs ring).take j))))
        ⟨_, _, rfl, s2.trans s3, ea3, e3, by rw [List.take_zero, List.append_nil]; exact s3 _ _ ed⟩ (fun j σ' H' _ ⟨v3, v4, es, sm, e1, e2, e4⟩ => ⟨SqL.of e1, SqL.of e2⟩) (fun j x y σ' H4 tu hx hy ⟨v3, v4, es, sm, e1, e2, e4⟩ htu => ?_) (fun σ' H4 ⟨v3, v4, es, sm, e1, e2, e4⟩ => ?_)
      · subst es
        rw [List.getElem?_map] at hx hy
        obtain ⟨u, hu, rfl⟩ := Option.map_eq_some_iff.mp hx
        obtain ⟨v, hv, rfl⟩ := Option.map_eq_some_iff.mp hy
        have hnew := fresh_key hnd er hu
        have s5 := same_upd htu (.tup [V.int u, V.int v])
        have hps : (prsS (S.take i) ++ (prs ring).take (j + 1)) = (prsS (S.take i) ++ (prs ring).take j) ++ [(u, v)] := by rw [List.take_add_one, prs_at hu hv, List.append_assoc]; rfl
        have hlen : (encP (prsS (S.take i) ++ (prs ring).take j)).length ≤ m := by
          unfold encP
          have k1 : ((prsS (S.take i) ++ (prs ring).take j).map (·.1)).length ≤ S.flatten.length := by
            rw [List.map_append, prsS_keys, List.map_take, prs_keys, List.length_append, List.length_take]
            have := congrArg List.length (congrArg List.flatten (split_at er))
            rw [List.flatten_append, List.flatten_cons, List.length_append, List.length_append] at this
            omega
          rw [List.length_map] at k1 ⊢
          omega
        refine wb_one (ws_dput (u1_of hr.u8) (we_var 4 rfl (we_var 1 rfl (we_var 3 rfl ⟨d, _, u, rfl, rfl, s5 _ _ e4, small1000 (by omega), ?_⟩))))
        rw [put_enc hnew, ← hps]
        exact ⟨_, _, rfl, same_new (sm.trans s5) hd, by rw [upd_ne had]; exact s5 _ _ e1, by rw [upd_ne hd3]; exact s5 _ _ e2, upd_same⟩
      · subst es
        rw [hmin, List.take_of_length_le (l := prs ring) (by rw [prs_len]; exact Nat.le_refl _)] at e4
        refine ⟨_, _, _, rfl, sm, ?_⟩
        rw [e4, List.take_add_one, er]
        show some (HO.dK (encP (prsS (S.take i) ++ prs ring))) = some (.dK (encP (prsS (S.take i ++ [ring]))))
        unfold prsS
        rw [List.flatMap_append, List.flatMap_singleton]
  · subst es
    rw [List.length_map, ← hal, List.take_length] at ed
    have hk : (encP (prsS S)).map (·.1) = S.flatten.map Sum.inl := by rw [encP_keys, prsS_keys]
    refine wb_one (ws_ret (we_compJ N_behind (defScope s_behind) [1] (by decide +kernel) (wi_list (we_sortedD rfl B.sorted (we_var 1 rfl ⟨d, _, S.flatten, rfl, ed, hk, by omega, fun l ns' hl hp hs => ⟨l, rfl, ⟨_, SqL.of upd_same⟩, ?_⟩⟩)))))
    have hw : ns' = whole m := by
      have := each_iff (m := m) hp hs
      rw [decide_eq_true ok.2.1] at this
      exact of_decide_eq_true this
    subst hw
    have s3 := same_upd hl (.lst ((whole m).map V.int))
    have e3 : (upd H2 l (.lst ((whole m).map V.int))) l = some (.lst ((whole m).map V.int)) := upd_same
    have ed3 := s3 _ _ ed
    generalize upd H2 l (.lst ((whole m).map V.int)) = H3 at s3 e3 ed3
    have hkn : ((prsS S).map (·.1)).Nodup := by rw [prsS_keys]; exact hnd
    refine compP_list (f := fun v => V.int ((lkp (prsS S) (unI v)).getD 0)) (p := fun _ => true) (SqL.of e3) (by rw [List.length_map, whole_length]; omega) (fun x H4 hx s4 => ⟨Same.refl _, rfl, fun _ cl C s0 H0 fp => ?_⟩) (fun D H4 hD s4 e4 => ?_)
    · obtain ⟨h, hh, rfl⟩ := List.mem_map.mp hx
      obtain ⟨v, fv⟩ := fol_ex (ok.2.1.symm.subset hh)
      have hl2 := lkp_mem hkn (fol_prsS fv)
      refine we_dget (u1_of hr.u8) (we_var 1 rfl (we_var 0 rfl ⟨d, _, h, .int v, rfl, rfl, s4 _ _ ed3, by rw [valV_enc, hl2]; rfl, Same.refl _, ?_⟩))
      show V.int v = V.int ((lkp (prsS S) h).getD 0)
      rw [hl2]; rfl
    · have s04 := ((s1.trans s2).trans s3).trans s4
      refine q D H4 (fun h => (lkp (prsS S) h).getD 0) (((s1.trans s2).trans s3).free hD) s04 (fun h v fv => by rw [lkp_mem hkn (fol_prsS fv)]; rfl) ?_
      rw [e4, filter_all, List.map_map, List.map_map]; rfl
end
end R

/-! part K04C -/
set_option Elab.async false
set_option linter.all false
set_option maxRecDepth 100000
set_option maxHeartbeats 4000000
namespace R
open PySem L2 RS
section
variable {P : Program} {w : World} {K : PySem.W.Frag} {mg : Str → Option Value} {base : Heap} {CX : CXT}
/-! ### _law_alone -/
theorem ok_alone {D Cs Cr Cg Cn Cq : Addr} {j : Nat} (F : Df K mg "_law_alone" ["e"] s_law_alone) (B : Blt mg) (X : ExD K mg D Cs Cr Cg Cn Cq j) : Fd P w K mg base CX "_law_alone" ["e"] 1 (spAlone D j) := by
  refine F.ok sc_law_alone (fun vs H Q E h => ?_) (fun f cdv A outer s H vs Q E hr h => ?_)
  · obtain ⟨x, rfl, _⟩ := h; rfl
  obtain ⟨x, rfl, hx, q⟩ := h
  refine wb_cons (ws_set 1 sc_law_alone.nd (we_lst (wa_cons (we_isC B.isinstance X.m1 (we_var 0 rfl ⟨x, D, _, rfl, hx, X.ei, X.k1, wa_cons (we_isC B.isinstance X.m2 (we_var 0 rfl ⟨x, D, _, rfl, hx, X.ei, X.k2, wa_cons (we_isC B.isinstance X.m3 (we_var 0 rfl ⟨x, D, _, rfl, hx, X.ei, X.k3, wa_cons (we_isC B.isinstance X.m4 (we_var 0 rfl ⟨x, D, _, rfl, hx, X.ei, X.k4, wa_nil ⟨by show 4 ≤ sizeLine; decide, fun p hp => ?_⟩⟩))⟩))⟩))⟩)))))
  have s1 := same_upd hp (.lst [.bl (j == 0), .bl (j == 1), .bl (j == 2), .bl (j == 3)])
  refine wb_cons (ws_if (WW.wt (ww_or (wt_not (wt_val (we_isC B.isinstance X.ms (we_var 0 rfl ⟨x, D, _, rfl, s1 _ _ hx, X.ei, X.ks, B1.mk (ifF (by decide) ?_)⟩)))))))
  refine ww_or (wt_not (wt_val (we_isB B.isinstance B.value bt_value (we_var 0 rfl ⟨x, D, _, rfl, s1 _ _ hx, X.ei, X.kv, B1.mk (ifF (by decide) ?_)⟩))))
  have hj : j = 0 ∨ j = 1 ∨ j = 2 ∨ j = 3 := by have := X.lt; omega
  refine ww_or1 (wt_ne (we_count (we_var 1 rfl ⟨p, rfl, ⟨_, SqL.of upd_same⟩, we_bl ⟨p, _, _, rfl, rfl, upd_same, rfl, rfl, we_int ⟨rfl, ifDN (fun c => ?_) (fun _ => wb_nil ?_)⟩⟩⟩)))
  · exfalso
    rcases hj with rfl | rfl | rfl | rfl <;> exact c rfl
  refine wb_one (ws_ret (we_index (we_var 1 rfl ⟨p, rfl, ⟨_, SqL.of upd_same⟩, we_bl ⟨p, _, _, j, .bl true, rfl, rfl, upd_same, rfl, rfl, ?_, rfl, fun i w hi hw => ?_, by simp, q _ s1⟩⟩)))
  · rcases hj with rfl | rfl | rfl | rfl <;> rfl
  · rcases hj with rfl | rfl | rfl | rfl
    · omega
    · have : i = 0 := by omega
      subst this; cases hw; rfl
    · have : i = 0 ∨ i = 1 := by omega
      rcases this with rfl | rfl <;> (cases hw; rfl)
    · have : i = 0 ∨ i = 1 ∨ i = 2 := by omega
      rcases this with rfl | rfl | rfl <;> (cases hw; rfl)
/-! ### rings refused with BadRings -/
theorem ok_checkRgBad {C : Addr} (F : Df K mg "check_rings" ["rings"] s_check_rings) (B : Blt mg) (hM : ∃ t, mg "MOST_HEIGHTS" = some (.int 30 t)) (X : ExC K mg "BadRings" C) (G : Fd P w K mg base (CXE P w) "joined" ["rings"] 1 spJoin) (G2 : Fd P w K mg base (CXE P w) "has_each_once" ["heights", "many"] 2 (spEach K)) : Fd P w K mg base (CXE P w) "check_rings" ["rings"] 3 (spRgBad C) := by
  have hCX := strictE P w
  obtain ⟨tM, hM⟩ := hM
  refine F.okX sc_check_rings (fun vs H Q E h => ?_) (fun f cdv A outer s H vs Q E hr h => ?_)
  · obtain ⟨a, S, rfl, _⟩ := h; rfl
  obtain ⟨rg, S, rfl, ⟨as, hA, hR⟩, hz, hfz, hb, q⟩ := h
  have hal := Prd.len hR
  have eall : ((as.map fun _ => true).all id) = true := by rw [List.all_map]; exact List.all_eq_true.mpr fun _ _ => rfl
  refine wb_cons (ws_if (WW.wt (ww_or (wt_not (wt_val (we_isT B.isinstance B.list bt_list (we_var 0 rfl ⟨_, true, .lst hA, kit_list_list K, B1.mk (ifF (by decide) ?_)⟩)))))))
  refine ww_or1 (wt_not (wt_val (we_all rfl B.all (we_compJ N_check_rings (defScope s_check_rings) [] (by decide +kernel) (wi_list (we_var 0 rfl ⟨rg, rfl, ⟨_, SqL.of hA⟩, ?_⟩))))))
  refine compP_list (f := fun _ => V.bl true) (p := fun _ => true) (SqL.of hA) (by rw [List.length_map]; omega) (fun x H1 hx s1 => ⟨Same.refl _, rfl, fun _ cl C s0 H0 fp => ?_⟩) (fun D H1 hD s1 e1 => ?_)
  · obtain ⟨c, r, rfl, _, he⟩ := hR.mem hx
    exact we_isT B.isinstance B.list bt_list (we_var 0 rfl ⟨_, true, .lst (s1 _ _ he), kit_list_list K, Same.refl _, rfl⟩)
  have e1' : H1 D = some (.lst ((as.map fun _ => true).map V.bl)) := by rw [e1, filter_all, List.map_map, List.map_map]; rfl
  refine ⟨D, _, rfl, SqL.of e1', ?_⟩
  rw [eall]
  refine B1.mk (ifF (by decide) (wb_nil ?_))
  have hA1 := s1 _ _ hA
  refine wb_cons (ws_if (wt_not (wt_val (we_all rfl B.all (we_compJ N_check_rings (defScope s_check_rings) [] (by decide +kernel) (wi_list (we_var 0 rfl ⟨rg, rfl, ⟨_, SqL.of hA1⟩, ?_⟩)))))))
  refine compP_list (f := fun v => V.bl (decide (0 < (rowOf H v).length))) (p := fun _ => true) (SqL.of hA1) (by rw [List.length_map]; omega) (fun x H2 hx s2 => ⟨Same.refl _, rfl, fun _ cl C s0 H0 fp => ?_⟩) (fun D2 H2 hD2 s2 e2 => ?_)
  · obtain ⟨c, r, rfl, hm, he⟩ := hR.mem hx
    refine we_gt (we_len B.len (we_var 0 rfl ⟨c, _, rfl, .inl (SqL.of (s2 _ _ (s1 _ _ he))), we_int (I2.mk ⟨Same.refl _, ?_⟩)⟩))
    rw [List.length_map, rowOf_eq he]
    congr 1; rw [decide_eq_decide]; omega
  have e2' : H2 D2 = some (.lst ((S.map fun r => decide (0 < r.length)).map V.bl)) := by
    have := rowsOf_eq hR
    rw [e2, filter_all, ← this, List.map_map, List.map_map, List.map_map, List.map_map]; rfl
  refine ⟨D2, _, rfl, SqL.of e2', ?_⟩
  rw [all_map_bl]
  refine B1.mk ?_
  have s02 := s1.trans s2
  cases hall : (S.all fun r => decide (0 < r.length)) with
  | false =>
    exact ifT rfl (wb_one (ws_raise (E := E) outs_cx rfl X.mg_ X.exc (wa_cons (we_str (wa_nil ⟨by decide, q H2 s02⟩)))))
  | true =>
    have hne : ∀ r ∈ S, 0 < r.length := fun r hr => of_decide_eq_true (List.all_eq_true.mp hall r hr)
    refine ifF (by decide) (wb_nil ?_)
    refine wb_cons (ws_set 1 sc_check_rings.nd (we_call G hr hCX.pass (wa_cons (we_var 0 rfl (wa_nil ⟨rg, S, rfl, ⟨as, s02 _ _ hA, hR.same s02⟩, by omega, fun r3 H3 hr3 s3 e3 => ?_⟩)))))
    have s03 := s02.trans s3
    refine wb_cons (ws_if (WW.wt (ww_or (wt_lt (we_len B.len (we_var 1 rfl ⟨r3, _, rfl, .inl (SqL.of e3), we_int (I2.mk ?_)⟩))))))
    rw [List.length_map]
    refine ifD (fun c => ?_) (fun c1 => ?_)
    · exact wb_one (ws_raise (E := E) outs_cx rfl X.mg_ X.exc (wa_cons (we_fstr (wj_str (by decide) (wj_int (we_glob (v := .int 30) hM ⟨tM, rfl⟩ ⟨30, rfl, by decide, by decide, wj_str (by decide) (wj_nil (by decide) (wa_nil ⟨by decide, q H3 s03⟩))⟩))))))
    refine ww_or1 (wt_gt (we_len B.len (we_var 1 rfl ⟨r3, _, rfl, .inl (SqL.of e3), we_glob (v := .int 30) hM ⟨tM, rfl⟩ (I2.mk ?_)⟩)))
    rw [List.length_map]
    refine ifD (fun c => ?_) (fun c2 => wb_nil ?_)
    · exact wb_one (ws_raise (E := E) outs_cx rfl X.mg_ X.exc (wa_cons (we_fstr (wj_str (by decide) (wj_int (we_glob (v := .int 30) hM ⟨tM, rfl⟩ ⟨30, rfl, by decide, by decide, wj_str (by decide) (wj_nil (by decide) (wa_nil ⟨by decide, q H3 s03⟩))⟩))))))
    refine wb_one (ws_if (wt_not (wt_val (we_call G2 hr hCX.pass (wa_cons (we_var 1 rfl (wa_cons (we_len B.len (we_var 1 rfl ⟨r3, _, rfl, .inl (SqL.of e3), ?_⟩)))))))))
    rw [List.length_map]
    refine wa_nil ⟨r3, S.flatten, S.flatten.length, rfl, SqL.of e3, by omega, by omega, fun H4 s4 => B1.mk ?_⟩
    have hno : ¬ S.flatten.Perm (whole S.flatten.length) := by
      rcases hb with z | z | z | z
      · exact absurd (hne [] z) (by simp)
      · exact absurd z (by omega)
      · exact absurd z (by omega)
      · exact z
    rw [decide_eq_false hno]
    exact ifT rfl (wb_one (ws_raise (E := E) outs_cx rfl X.mg_ X.exc (wa_cons (we_str (wa_nil ⟨by decide, q H4 (s03.trans s4)⟩)))))
theorem ok_rowofBad {C : Addr} (F : Df K mg "row_of" ["rings"] s_row_of) (G : Fd P w K mg base (CXE P w) "check_rings" ["rings"] 3 (spRgBad C)) : Fd P w K mg base (CXE P w) "row_of" ["rings"] 4 (spRgBad C) := by
  refine F.okX sc_row_of (fun vs H Q E h => ?_) (fun f cdv A outer s H vs Q E hr h => ?_)
  · obtain ⟨a, S, rfl, _⟩ := h; rfl
  obtain ⟨a, S, rfl, h⟩ := h
  exact wb_cons (ws_expr (we_call G hr (passes_on (fun _ _ _ z => z)) (wa_cons (we_var 0 rfl (wa_nil ⟨a, S, rfl, h⟩)))))
theorem ok_behindBad {C : Addr} (F : Df K mg "behind" ["rings"] s_behind) (G : Fd P w K mg base (CXE P w) "check_rings" ["rings"] 3 (spRgBad C)) : Fd P w K mg base (CXE P w) "behind" ["rings"] 4 (spRgBad C) := by
  refine F.okX sc_behind (fun vs H Q E h => ?_) (fun f cdv A outer s H vs Q E hr h => ?_)
  · obtain ⟨a, S, rfl, _⟩ := h; rfl
  obtain ⟨a, S, rfl, h⟩ := h
  exact wb_cons (ws_expr (we_call G hr (passes_on (fun _ _ _ z => z)) (wa_cons (we_var 0 rfl (wa_nil ⟨a, S, rfl, h⟩)))))
/-! ### _law_refused -/
theorem ok_refused {Cs Cr Cg Cn Cq : Addr} (F : Df K mg "_law_refused" ["call", "rings"] s_law_refused) (X : ExD K mg Cg Cs Cr Cg Cn Cq 1) (Ga : Fd P w K mg base (CXE P w) "_law_alone" ["e"] 1 (spAlone Cg 1)) (Gr : Fd P w K mg base (CXE P w) "row_of" ["rings"] 4 (spRgBad Cg)) (Gb : Fd P w K mg base (CXE P w) "behind" ["rings"] 4 (spRgBad Cg)) :
    Fd P w K mg base (CXE P w) "_law_refused" ["call", "rings"] 5 spRef4 := by
  have hCX := strictE P w
  refine F.ok sc_law_refused (fun vs H Q E h => ?_) (fun f cdv A outer s H vs Q E hr h => ?_)
  · obtain ⟨c, a, S, rfl, _⟩ := h; rfl
  obtain ⟨c, a, S, rfl, hS, hz, hfz, hb, q⟩ := h
  refine wb_cons (ws_set 2 sc_law_refused.nd (we_non ?_))
  refine wb_cons (ws_try (fun c _ H' => c = .ref Cg ∧ Same H H') 3 sc_law_refused.nd X.ms (fun pins Eh hx => ?_) (fun c H' hc => ?_))
  · refine wb_one (ws_if (wt_eq (we_var 0 rfl (we_int ⟨rfl, ifD (fun c0 => ?_) (fun c0 => ?_)⟩))))
    · exact wb_one (ws_expr (we_callT Gr hr hx (wa_cons (we_var 1 rfl (wa_nil ⟨a, S, rfl, hS, hz, hfz, hb, fun H' s' => ⟨rfl, s'⟩⟩)))))
    · exact wb_one (ws_expr (we_callT Gb hr hx (wa_cons (we_var 1 rfl (wa_nil ⟨a, S, rfl, hS, hz, hfz, hb, fun H' s' => ⟨rfl, s'⟩⟩)))))
  · obtain ⟨rfl, s'⟩ := hc
    refine ⟨Cg, rfl, X.ex, fun pins x hx => ?_⟩
    refine wb_one (ws_set 2 sc_law_refused.nd (we_var 3 rfl ?_))
    refine wb_one (ws_ret (we_call Ga hr hCX.pass (wa_cons (we_var 2 rfl (wa_nil ⟨x, rfl, upd_same, fun H2 s2 => q H2 (s'.trans ((same_upd hx _).trans s2))⟩)))))
end
end R

/-! part K04D -/
set_option Elab.async false
set_option linter.all false
set_option maxRecDepth 100000
set_option maxHeartbeats 4000000
namespace R
open PySem L2 RS
section
variable {P : Program} {w : World} {K : PySem.W.Frag} {mg : Str → Option Value} {base : Heap} {CX : CXT}
theorem ok_order (F : Df K mg "_law_order" ["script", "start", "many"] s_law_order) (B : Blt mg) (hCX : Strict CX) (G : Fd P w K mg base CX "_law_draw" ["script", "k"] 2 (spDraw K)) :
    Fd P w K mg base CX "_law_order" ["script", "start", "many"] 3 (spOrder K) := by
  refine F.ok sc_law_order (fun vs H Q E h => ?_) (fun f cdv A outer s H vs Q E hr h => ?_)
  · obtain ⟨a, ns, st, many, rfl, _⟩ := h; rfl
  obtain ⟨a, ns, st, many, rfl, hS, h0, h1, h2, q⟩ := h
  generalize hm : many.toNat = m at q
  have em : many = (m : Int) := by omega
  subst em
  refine wb_cons (ws_set 3 sc_law_order.nd (we_listRange2 rfl B.list B.range (we_int (we_add (we_var 2 rfl (we_int (I2.mk ⟨1, _, rfl, rfl, by decide, by decide, by omega, by omega, by omega, fun r H1 hr1 s1 e1 => ?_⟩)))))))
  rw [show ((m : Int) + 1 - 1).toNat = m by omega] at e1
  have hs1 := (Hs.start H).call s1 hr1 e1
  refine wb_cons (ws_set 4 sc_law_order.nd (we_lst (wa_nil ⟨Nat.zero_le _, fun p hp => ?_⟩)))
  have hs2 := hs1.alloc (o := .lst []) hp
  refine wb_cons (ws_for 5 sc_law_order.nd PassesOwn.never rfl (wi_range1 B.range (wa_cons (we_var 2 rfl (wa_nil ⟨_, rfl, by omega, by omega, ?_⟩)))))
  rw [hm]
  refine wf_range (fun i σ' H' => i ≤ m ∧ ∃ kv rw lf, σ' = [some (.ref a), some (.int st), some (.int (m : Int)), some (.ref r), some (.ref p), kv, none, none] ∧ Hs H H' [(p, .lst (rw.map V.int)), (r, .lst (lf.map V.int))] ∧ (rw ++ lf).Perm (whole m) ∧ rw.length = i)
    ⟨Nat.zero_le _, none, [], whole m, rfl, hs2, List.Perm.refl _, rfl⟩ (fun i σ' H' hi ⟨_, kv, rw', lf, e, hs, hpm, hl⟩ => ?_) (fun σ' H' ⟨_, kv, rw', lf, e, hs, hpm, hl⟩ => ?_)
  · subst e
    have hlen : rw'.length + lf.length = m := by
      have := hpm.length_eq
      rw [List.length_append, whole_length] at this
      exact this
    refine wb_one (ws_expr (we_append (we_var 4 rfl ⟨p, rfl, ⟨_, SqL.of (hs.get 0 rfl)⟩, we_popAt (we_var 3 rfl ⟨r, rfl, ⟨_, SqL.of (hs.get 1 rfl)⟩, we_mod (we_call G hr hCX.pass ?_)⟩)⟩)))
    refine wa_cons (we_var 0 rfl (wa_cons (we_add (we_var 1 rfl (we_var 5 rfl (I2.mk (wa_nil ⟨a, ns, _, rfl, hs.seq hS, by omega, ?_⟩)))))))
    have hd := drawF_lo ns (st + (0 + (i : Int)))
    generalize drawF ns (st + (0 + (i : Int))) = d at hd
    have hpos : (0 : Int) < ((lf.map V.int).length : Nat) := by rw [List.length_map]; omega
    refine we_len B.len (we_var 3 rfl ⟨r, _, rfl, .inl (SqL.of (hs.get 1 rfl)), I2.mk ⟨hpos, ?_⟩⟩)
    rw [List.length_map] at hpos ⊢
    have k0 : 0 ≤ d % (lf.length : Int) := Int.emod_nonneg _ (by omega)
    have k1 : d % (lf.length : Int) < (lf.length : Int) := Int.emod_lt_of_pos _ hpos
    generalize d % (lf.length : Int) = k at k0 k1
    refine ⟨_, k, _, rfl, hs.get 1 rfl, k0, by rw [List.length_map]; omega, get_int k0 k1, ?_⟩
    have g1 := hs.write (o' := .lst ((lf.map V.int).eraseIdx k.toNat)) 1 rfl
    refine ⟨_, g1.get 0 rfl, small1000 (by rw [List.length_map]; omega), ?_⟩
    have g2 := g1.write (o' := .lst (rw'.map V.int ++ [.int (lf.getD k.toNat 0)])) 0 rfl
    refine ⟨by omega, _, rw' ++ [lf.getD k.toNat 0], lf.eraseIdx k.toNat, rfl, ?_, ?_, ?_⟩
    · rw [List.map_append, ← erase_map]; exact g2
    · refine List.Perm.trans ?_ hpm
      rw [List.append_assoc]
      exact List.Perm.append_left _ (perm_take lf k.toNat _ (getD_some (by omega))).symm
    · rw [List.length_append, hl]; rfl
  · subst e
    have hlen : rw'.length + lf.length = m := by
      have := hpm.length_eq
      rw [List.length_append, whole_length] at this
      exact this
    have hlf : lf = [] := List.eq_nil_of_length_eq_zero (by omega)
    subst hlf
    rw [List.append_nil] at hpm
    refine wb_cons (ws_if (wt_eq (we_mod (we_call G hr hCX.pass (wa_cons (we_var 0 rfl (wa_cons (we_int (wa_nil ⟨a, ns, 59, rfl, hs.seq hS, by decide, ?_⟩)))))))))
    refine we_int (I2.mk ⟨by decide, we_int ⟨rfl, ifD (fun c => ?_) (fun c => ?_)⟩⟩)
    · refine wb_cons (ws_set 4 sc_law_order.nd (we_sorted B.sorted (we_var 4 rfl ⟨p, rw', rfl, SqL.of (hs.get 0 rfl), by omega, fun r2 ns2 hr2 hp2 _ => ?_⟩)))
      have hs3 := hs.alloc (o := .lst (ns2.map V.int)) hr2
      refine wb_one (ws_for 5 sc_law_order.nd PassesOwn.never rfl (wi_range1 B.range (wa_cons (we_int (wa_nil ⟨_, rfl, by decide, by decide, ?_⟩)))))
      refine wf_range (fun i σ' H' => ∃ kv av tv rw2, σ' = [some (.ref a), some (.int st), some (.int (m : Int)), some (.ref r), some (.ref r2), kv, av, tv] ∧ Hs H H' [(r2, .lst (rw2.map V.int)), (p, .lst (rw'.map V.int)), (r, .lst [])] ∧ rw2.Perm (whole m))
        ⟨_, _, _, ns2, rfl, hs3, hp2.trans hpm⟩ (fun i σ' H' hi ⟨kv, av, tv, rw2, e, hs, hpm2⟩ => ?_) (fun σ' H' ⟨kv, av, tv, rw2, e, hs, hpm2⟩ => ?_)
      · subst e
        have hl2 : rw2.length = m := by rw [hpm2.length_eq, whole_length]
        refine wb_cons (ws_set 6 sc_law_order.nd (we_mod (we_call G hr hCX.pass (wa_cons (we_var 0 rfl (wa_cons (we_add (we_var 1 rfl (we_var 5 rfl (I2.mk (wa_nil ⟨a, ns, _, rfl, hs.seq hS, by omega, ?_⟩)))))))))))
        refine we_var 2 rfl (I2.mk ⟨by omega, ?_⟩)
        have a0 := Int.emod_nonneg (drawF ns (st + (0 + (i : Int)))) (show (m : Int) ≠ 0 by omega)
        have a1 := Int.emod_lt_of_pos (drawF ns (st + (0 + (i : Int)))) (show (0 : Int) < m by omega)
        generalize drawF ns (st + (0 + (i : Int))) % (m : Int) = av' at a0 a1
        refine wb_cons (ws_set 7 sc_law_order.nd (we_mod (we_call G hr hCX.pass (wa_cons (we_var 0 rfl (wa_cons (we_add (we_add (we_var 1 rfl (we_int (I2.mk (we_var 5 rfl (I2.mk (wa_nil ⟨a, ns, _, rfl, hs.seq hS, by omega, ?_⟩))))))))))))))
        refine we_var 2 rfl (I2.mk ⟨by omega, ?_⟩)
        have t0 := Int.emod_nonneg (drawF ns (st + 2 + (0 + (i : Int)))) (show (m : Int) ≠ 0 by omega)
        have t1 := Int.emod_lt_of_pos (drawF ns (st + 2 + (0 + (i : Int)))) (show (0 : Int) < m by omega)
        generalize drawF ns (st + 2 + (0 + (i : Int))) % (m : Int) = tv' at t0 t1
        refine wb_one (ws_expr (we_insert (we_var 4 rfl ⟨r2, rfl, ⟨_, SqL.of (hs.get 0 rfl)⟩, we_var 7 rfl (we_popAt (we_var 4 rfl ⟨r2, rfl, ⟨_, SqL.of (hs.get 0 rfl)⟩, we_var 6 rfl
          ⟨_, av', _, rfl, hs.get 0 rfl, a0, by rw [List.length_map]; omega, get_int a0 (by omega), ?_⟩⟩))⟩)))
        have g1 := hs.write (o' := .lst ((rw2.map V.int).eraseIdx av'.toNat)) 0 rfl
        have el : ((rw2.map V.int).eraseIdx av'.toNat).length < sizeLine := small1000 (Nat.le_trans (len_erase _ _) (by rw [List.length_map]; omega))
        refine ⟨_, tv', rfl, g1.get 0 rfl, t0, by omega, el, ?_⟩
        have g2 := g1.write (o' := .lst (insAt ((rw2.map V.int).eraseIdx av'.toNat) (min tv'.toNat ((rw2.map V.int).eraseIdx av'.toNat).length) (.int (rw2.getD av'.toNat 0)))) 0 rfl
        generalize min tv'.toNat ((rw2.map V.int).eraseIdx av'.toNat).length = kk at g2
        refine ⟨_, _, _, (rw2.eraseIdx av'.toNat).take kk ++ rw2.getD av'.toNat 0 :: (rw2.eraseIdx av'.toNat).drop kk, rfl, ?_, ?_⟩
        · rw [← insAt_map, ← erase_map]; exact g2
        · exact (perm_ins (rw2.eraseIdx av'.toNat) kk _).trans ((perm_take rw2 av'.toNat _ (getD_some (by omega))).symm.trans hpm2)
      · subst e
        exact wb_one (ws_ret (we_var 4 rfl (q r2 _ rw2 (hs.free 0 rfl) hs.same (hs.get 0 rfl) hpm2)))
    · refine wb_nil (wb_one (ws_ret (we_var 4 rfl (q p _ rw' (hs.free 0 rfl) hs.same (hs.get 0 rfl) hpm))))
theorem ok_whole (F : Df K mg "_law_whole" ["found"] s_law_whole) (B : Blt mg) : Fd P w K mg base CX "_law_whole" ["found"] 1 spWhole := by
  refine F.ok sc_law_whole (fun vs H Q E h => ?_) (fun f cdv A outer s H vs Q E hr h => ?_)
  · obtain ⟨i, rfl, _⟩ := h; rfl
  obtain ⟨i, rfl, q⟩ := h
  refine wb_one (ws_ret (we_and (we_isT B.isinstance B.int bt_int (we_var 0 rfl ⟨_, true, .int i, kit_int_int K, B1.mk (ifT rfl ?_)⟩))))
  exact we_one (we_not (we_isT B.isinstance B.bool bt_bool (we_var 0 rfl ⟨_, false, .int i, kit_int_bool K, B1.mk q⟩)))
theorem ok_numbers (F : Df K mg "_law_numbers" ["found", "due"] s_law_numbers) (B : Blt mg) (hCX : Strict CX) (G : Fd P w K mg base CX "_law_whole" ["found"] 1 spWhole) :
    Fd P w K mg base CX "_law_numbers" ["found", "due"] 2 (spNumbers K) := by
  refine F.ok sc_law_numbers (fun vs H Q E h => ?_) (fun f cdv A outer s H vs Q E hr h => ?_)
  · obtain ⟨a, b, ns, ms, rfl, _⟩ := h; rfl
  obtain ⟨a, b, ns, ms, rfl, hA, hB, hz, q⟩ := h
  refine wb_cons (ws_if (WW.wt (ww_or (wt_not (wt_val (we_isT B.isinstance B.list bt_list (we_var 0 rfl ⟨_, true, .lst hA, kit_list_list K, B1.mk (ifF (by decide) ?_)⟩)))))))
  refine ww_or1 (wt_cmp (op_neI hr.u8) (nomark _) (we_var 0 rfl (we_var 1 rfl ⟨_, _, ns, ms, rfl, rfl, SqL.of hA, hB, B1.mk ?_⟩)))
  refine ifDN (fun c => ?_) (fun c => ?_)
  · refine wb_one (ws_ret (we_bl ?_))
    have := q H (Same.refl H)
    rw [decide_eq_false c] at this; exact this
  · refine wb_nil (wb_one (ws_ret (we_cmp op_notIn_seq rfl (we_bl (we_compJ ["found", "due"] (defScope s_law_numbers) [] (by decide +kernel) (wi_list (we_var 0 rfl ⟨a, rfl, ⟨_, SqL.of hA⟩, ?_⟩)))))))
    refine compP_list (f := fun _ => V.bl true) (p := fun _ => true) (SqL.of hA) (by rw [List.length_map]; omega) (fun x H1 hx s1 => ⟨Same.refl _, rfl, fun _ cl C s0 H0 fp => ?_⟩) (fun D H1 hD s1 e1 => ?_)
    · obtain ⟨i, _, rfl⟩ := List.mem_map.mp hx
      exact we_call G hr hCX.pass (wa_cons (we_var 0 rfl (wa_nil ⟨i, rfl, Same.refl _, rfl⟩)))
    · rw [map_true] at e1
      refine ⟨D, _, rfl, .inl (SqL.of e1), rfl, flat_bls _, ?_⟩
      show Q (.bl (!inV (.bl false) ((ns.map fun _ => true).map V.bl))) H1
      rw [notIn_false, all_true]
      have := q H1 s1
      rw [decide_eq_true c] at this; exact this
/-! ### _law_drawn -/
theorem ok_ldrawn (F : Df K mg "_law_drawn" ["script", "many"] s_law_drawn) (B : Blt mg) (hCX : Strict CX) (Gd : Fd P w K mg base CX "_law_draw" ["script", "k"] 2 (spDraw K)) (Go : Fd P w K mg base CX "_law_order" ["script", "start", "many"] 3 (spOrder K)) : Fd P w K mg base CX "_law_drawn" ["script", "many"] 4 (spLDrawn K) := by
  refine F.ok sc_law_drawn (fun vs H Q E h => ?_) (fun f cdv A outer s H vs Q E hr h => ?_)
  · obtain ⟨a, ns, m, rfl, _⟩ := h; rfl
  obtain ⟨a, ns, m, rfl, hS, hm1, hm2, q⟩ := h
  refine wb_cons (ws_set 2 sc_law_drawn.nd (we_lst (wa_nil ⟨Nat.zero_le _, fun p hp => ?_⟩)))
  have s0 := same_upd hp (.lst [])
  have e0 : (upd H p (.lst [])) p = some (.lst []) := upd_same
  generalize upd H p (.lst []) = H0 at s0 e0
  refine wb_cons (ws_for 3 sc_law_drawn.nd PassesOwn.never rfl (wi_list (we_call Go hr hCX.pass (wa_cons (we_var 0 rfl (wa_cons (we_int (wa_cons (we_var 1 rfl (wa_nil ⟨a, ns, 100, m, rfl, s0.seq hS, by decide, by omega, by omega, fun r H1 row hr1 s1 e1 hpm => ⟨r, rfl, ⟨_, SqL.of e1⟩, ?_⟩⟩))))))))))
  rw [Int.toNat_natCast] at hpm
  have hrl : row.length = m := by rw [hpm.length_eq, whole_length]
  have hrp : r ≠ p := fun z => by rw [z, e0] at hr1; cases hr1
  have hrf := s0.free hr1
  refine wf_list (xs := row.map V.int) (fun i σ' H' => i ≤ m ∧ ∃ v3 as S, σ' = [some (.ref a), some (.int m), some (.ref p), v3] ∧ Same H H' ∧ H' r = some (.lst (row.map V.int)) ∧ H' p = some (.lst (as.map V.ref)) ∧ RwsA H' S as ∧ as.Nodup ∧ (∀ b ∈ as, H b = none ∧ b ≠ p ∧ b ≠ r) ∧ S.flatten.Perm (row.take i) ∧ ∀ x ∈ S, x ≠ [])
    ⟨Nat.zero_le _, none, [], [], rfl, s0.trans s1, e1, s1 _ _ e0, .nil, List.nodup_nil, fun _ h => (nomatch h), by simp, fun _ h => (nomatch h)⟩ (fun i σ' H' _ ⟨_, v3, as, S, es, sm, er, _⟩ => SqL.of er) (fun i x σ' H2 hx ⟨_, v3, as, S, es, sm, er, ep, hR, hnd, hnew, hpe, hne⟩ => ?_) (fun σ' H2 ⟨_, v3, as, S, es, sm, er, ep, hR, hnd, hnew, hpe, hne⟩ => ?_)
  · subst es
    rw [List.getElem?_map] at hx
    obtain ⟨h, hh, rfl⟩ := Option.map_eq_some_iff.mp hx
    have hi : i < m := by rw [← hrl]; exact (List.getElem?_eq_some_iff.mp hh).1
    have hb := mem_bd hpm (List.mem_of_getElem? hh)
    have hal := Prd.len hR
    have hfl : S.flatten.length = i := by rw [hpe.length_eq, List.length_take]; omega
    have hfc := flat_count hne
    have het : row.take (i + 1) = row.take i ++ [h] := by rw [List.take_add_one, hh]; rfl
    refine wb_one (ws_if (WT.mono (Q := fun k H3 => Same H2 H3 ∧ (k = false → S ≠ [])) ?_ fun k H3 ⟨s3, hk⟩ => ?_))
    · refine WW.wt (ww_or (wt_cmp (op_eqD hr.u8) (nomark _) (we_var 2 rfl (we_lst (wa_nil ⟨Nat.zero_le _, fun p2 hp2 => ?_⟩)))))
      have s3 := same_upd hp2 (.lst [])
      refine ⟨_, _, SqAt.dv (S := S) ⟨as, s3 _ _ ep, hR.same s3⟩, SqAt.dv (S := []) ⟨[], upd_same, .nil⟩, lay_rows _, lay_rows _, Nat.le_trans (Nat.min_le_left _ _) (Nat.le_trans (deep_rows _) (by decide)), B1.mk ?_⟩
      show if PyData.eqv (rowsD S) (rowsD []) = true then _ else _
      rw [eqv_rows]
      refine ifD (fun c => ⟨s3, fun z => (by cases z)⟩) (fun c => ?_)
      refine ww_or1 (wt_eq (we_mod (we_call Gd hr hCX.pass (wa_cons (we_var 0 rfl (wa_cons (we_add (we_int (we_var 3 rfl (I2.mk (wa_nil ⟨a, ns, _, rfl, (sm.trans s3).seq hS, by omega, we_int (I2.mk ⟨by decide, we_int ⟨rfl, s3, fun _ => c⟩⟩)⟩)))))))))))
    · have ep3 := s3 _ _ ep
      have er3 := s3 _ _ er
      have hR3 := hR.same s3
      have sm3 := sm.trans s3
      refine ifB (fun kt => ?_) (fun kf => ?_)
      · refine wb_one (ws_expr (we_append (we_var 2 rfl ⟨p, rfl, ⟨_, SqL.of ep3⟩, we_lst (wa_cons (we_var 3 rfl (wa_nil ⟨by show 1 ≤ sizeLine; decide, fun c hc => ?_⟩)))⟩)))
        have s4 := same_upd hc (.lst [V.int h])
        have e4 : (upd H3 c (.lst [V.int h])) c = some (.lst ([h].map V.int)) := upd_same
        generalize upd H3 c (.lst [V.int h]) = H4 at s4 e4
        have hcp : c ≠ p := fun z => by rw [z, ep3] at hc; cases hc
        have hcr : c ≠ r := fun z => by rw [z, er3] at hc; cases hc
        have hca : c ∉ as := fun z => by
          obtain ⟨x, _, ex⟩ := Prd.mem hR3 c z
          rw [ex] at hc; cases hc
        refine ⟨_, s4 _ _ ep3, small1000 (by rw [List.length_map]; omega), hi, _, as ++ [c], S ++ [[h]], rfl, same_new (sm3.trans s4) hp, by rw [upd_ne hrp]; exact s4 _ _ er3, by rw [upd_same, List.map_append]; rfl, ?_, ?_, fun b hb => ?_, ?_, fun x hx => ?_⟩
        · exact Prd.append (Prd.mono' (fun x b hb e => by rw [upd_ne (hnew b hb).2.1]; exact s4 _ _ e) hR3) (.cons (by rw [upd_ne hcp]; exact e4) .nil)
        · exact List.nodup_append.mpr ⟨hnd, by simp, fun x hx y hy => by
            have : y = c := by simpa using hy
            subst this
            exact fun z => hca (by rw [← z]; exact hx)⟩
        · rcases List.mem_append.mp hb with hb | hb
          · exact hnew b hb
          · have : b = c := by simpa using hb
            subst this
            exact ⟨sm3.free hc, hcp, hcr⟩
        · rw [List.flatten_append, het]
          exact hpe.append (by simp)
        · rcases List.mem_append.mp hx with hx | hx
          · exact hne x hx
          · have : x = [h] := by simpa using hx
            rw [this]; simp
      · have hS0 : 0 < S.length := List.length_pos_iff.mpr (hk kf)
        refine wb_one (ws_expr (we_append (we_ixL (we_var 2 rfl (we_mod (we_call Gd hr hCX.pass (wa_cons (we_var 0 rfl (wa_cons (we_add (we_int (we_var 3 rfl (I2.mk (wa_nil ⟨a, ns, _, rfl, sm3.seq hS, by omega, ?_⟩))))))))))))))
        refine we_len B.len (we_var 2 rfl ⟨p, _, rfl, .inl (SqL.of ep3), I2.mk ⟨by rw [List.length_map]; omega, ?_⟩⟩)
        rw [List.length_map]
        have k0 := Int.emod_nonneg (drawF ns (300 + h)) (show (as.length : Int) ≠ 0 by omega)
        have k1 := Int.emod_lt_of_pos (drawF ns (300 + h)) (show (0 : Int) < as.length by omega)
        obtain ⟨j, ej, hj⟩ : ∃ j : Nat, drawF ns (300 + h) % (as.length : Int) = (j : Int) ∧ j < as.length := ⟨(drawF ns (300 + h) % (as.length : Int)).toNat, by omega, by omega⟩
        rw [ej]
        obtain ⟨b, hbj, eb⟩ := hR3.nth (k := j) (by omega)
        have hbm := hnew b (List.mem_of_getElem? hbj)
        have hgm : S.getD j [] ∈ S := by rw [List.getD_eq_getElem?_getD, List.getElem?_eq_getElem (by omega)]; exact List.getElem_mem _
        have hgl := flat_le hgm
        refine ⟨p, _, _, _, rfl, rfl, SqL.of ep3, at_ref hbj, b, rfl, ⟨_, SqL.of eb⟩, we_var 3 rfl ⟨_, eb, small1000 (by rw [List.length_map]; omega), hi, _, as, S.set j (S.getD j [] ++ [h]), rfl, same_new sm3 hbm.1, by rw [upd_ne (Ne.symm hbm.2.2)]; exact er3, by rw [upd_ne (Ne.symm hbm.2.1)]; exact ep3, ?_, hnd, hnew, ?_, set_ne hne (by simp)⟩⟩
        · have := hR3.set (ns := S.getD j [] ++ [h]) hnd hbj
          rw [List.map_append] at this; exact this
        · rw [het]
          exact (flat_set h (by omega)).trans (hpe.append_right [h])
  · subst es
    rw [List.length_map, List.take_length] at hpe
    exact wb_one (ws_ret (we_var 2 rfl (q p H2 S sm ⟨as, ep, hR⟩ ⟨hne, hpe.trans hpm, hm1, hm2⟩)))
/-! ### _law_further -/
theorem ok_further (F : Df K mg "_law_further" ["height", "many"] s_law_further) (B : Blt mg) : Fd P w K mg base CX "_law_further" ["height", "many"] 1 spFurther := by
  refine F.ok sc_law_further (fun vs H Q E h => ?_) (fun f cdv A outer s H vs Q E hr h => ?_)
  · obtain ⟨h, m, rfl, _⟩ := h; rfl
  obtain ⟨h, m, rfl, q⟩ := h
  refine wb_cons (ws_if (wt_eq (we_var 0 rfl (we_int ⟨rfl, ifD (fun c => ?_) (fun c => wb_nil ?_)⟩))))
  · have e : h = 1 := by injection c
    unfold furF at q
    rw [if_pos e] at q
    exact wb_one (ws_ret (we_int q))
  · have e : h ≠ 1 := fun z => c (by rw [z])
    unfold furF at q
    rw [if_neg e] at q
    refine wb_one (ws_ret (we_add (we_var 0 rfl (we_intB B.int (we_eq (we_var 0 rfl (we_var 1 rfl ⟨rfl, _, rfl, I2.mk ?_⟩)))))))
    have e2 : (if decide (V.int h = V.int m) = true then (1 : Int) else 0) = if h = m then 1 else 0 := by
      by_cases z : h = m
      · rw [if_pos z, if_pos (by rw [z]; simp)]
      · rw [if_neg z, if_neg (by rw [decide_eq_true_iff]; exact fun y => z (by injection y))]
    rw [e2]
    exact q
/-! ### _law_behind -/
theorem ok_lbehind (F : Df K mg "_law_behind" ["rings", "many"] s_law_behind) (B : Blt mg) : Fd P w K mg base CX "_law_behind" ["rings", "many"] 1 spLBehind := by
  refine F.ok sc_law_behind (fun vs H Q E h => ?_) (fun f cdv A outer s H vs Q E hr h => ?_)
  · obtain ⟨q, S, m, rfl, _⟩ := h; rfl
  obtain ⟨rg, S, m, rfl, ⟨as, hA, hR⟩, ok, q⟩ := h
  have hm2 := ok.2.2.2
  have hal := Prd.len hR
  refine wb_cons (ws_set 2 sc_law_behind.nd (we_rep (we_lst (wa_cons (we_int (wa_nil ⟨by show 1 ≤ sizeLine; decide, fun p hp => we_var 1 rfl ⟨p, _, _, rfl, rfl, upd_same, by omega, by omega, ?_, fun fo hfo => ?_⟩⟩))))))
  · exact small_list (by simp; omega)
  rw [Int.toNat_natCast, rep_zero]
  have s1 := (same_upd hp (.lst [V.int 0])).trans (same_upd hfo (.lst ((List.replicate m (0 : Int)).map V.int)))
  have e1 : (upd (upd H p (.lst [V.int 0])) fo (.lst ((List.replicate m (0 : Int)).map V.int))) fo = some (.lst ((List.replicate m (0 : Int)).map V.int)) := upd_same
  have hfo' := (same_upd hp (.lst [V.int 0])).free hfo
  generalize upd (upd H p (.lst [V.int 0])) fo (.lst ((List.replicate m (0 : Int)).map V.int)) = H1 at s1 e1
  have hzl : (List.replicate m (0 : Int)).length = m := List.length_replicate ..
  generalize List.replicate m (0 : Int) = z at e1 hzl
  refine wb_cons (ws_for 3 sc_law_behind.nd PassesOwn.never rfl (wi_list (we_var 0 rfl ⟨rg, rfl, ⟨_, SqL.of (s1 _ _ hA)⟩, ?_⟩)))
  refine wf_list (xs := as.map V.ref) (fun i σ' H' => ∃ v3 v4, σ' = [some (.ref rg), some (.int m), some (.ref fo), v3, v4] ∧ Same H H' ∧ H' fo = some (.lst ((setP z (qrsS (S.take i))).map V.int)))
    ⟨none, none, rfl, s1, e1⟩ (fun i σ' H' _ ⟨v3, v4, es, sm, ef⟩ => SqL.of (sm _ _ hA)) (fun i x σ' H2 hx ⟨v3, v4, es, s2, ef⟩ => ?_) (fun σ' H2 ⟨v3, v4, es, s2, ef⟩ => ?_)
  · subst es
    rw [List.getElem?_map] at hx
    cases ha : as[i]? with
    | none => rw [ha] at hx; cases hx
    | some a =>
      rw [ha] at hx
      have ex : V.ref a = x := Option.some.inj hx
      subst ex
      obtain ⟨ring, er, ea⟩ := Prd.get hR ha
      have hrm := List.mem_of_getElem? er
      have hrl := ok.row hrm
      refine wb_one (ws_for 4 sc_law_behind.nd PassesOwn.never rfl (wi_range1 B.range (wa_cons (we_len B.len (we_var 3 rfl ⟨a, _, rfl, .inl (SqL.of (s2 _ _ ea)), wa_nil ⟨_, rfl, by omega, by rw [List.length_map]; omega, ?_⟩⟩)))))
      rw [List.length_map, Int.toNat_natCast]
      refine wf_range (fun j σ' H' => ∃ v4, σ' = [some (.ref rg), some (.int m), some (.ref fo), some (.ref a), v4] ∧ Same H H' ∧ H' fo = some (.lst ((setP z (qrsS (S.take i) ++ (qrs ring).take j)).map V.int)))
        ⟨_, rfl, s2, by rw [List.take_zero, List.append_nil]; exact ef⟩ (fun j σ' H3 hj ⟨v4, es, s3, ef3⟩ => ?_) (fun σ' H3 ⟨v4, es, s3, ef3⟩ => ?_)
      · subst es
        rw [Int.zero_add]
        have ea3 := s3 _ _ ea
        have hpm := prv_mem hj
        have hbd := mem_bd ok.2.1 (List.mem_flatten.mpr ⟨ring, hrm, hpm⟩)
        have hsl := setP_len (qrsS (S.take i) ++ (qrs ring).take j) z
        have hq : qrsS (S.take i) ++ (qrs ring).take (j + 1) = (qrsS (S.take i) ++ (qrs ring).take j) ++ [(ring.getD (prv ring.length j) 0, ring.getD j 0)] := by rw [List.take_add_one, qrs_at hj, List.append_assoc]; rfl
        have hat := at_prev hj
        generalize ring.getD (prv ring.length j) 0 = h at hbd hq hpm hat
        refine wb_one (ws_setIx set_list (we_ixL (we_var 3 rfl (we_var 4 rfl ⟨a, _, _, _, rfl, rfl, SqL.of ea3, at_int (by omega) (by omega), we_var 2 rfl (we_sub (we_ixL (we_var 3 rfl (we_sub (we_var 4 rfl (we_int (I2.mk ⟨a, _, _, _, rfl, rfl, SqL.of ea3, hat, we_int (I2.mk ?_)⟩)))))))⟩))))
        rw [Int.toNat_natCast]
        refine ⟨fo, _, _, (h - 1).toNat, rfl, rfl, ef3, ?_, ?_⟩
        · rw [ixN_nat (by omega) (by rw [List.length_map, hsl, hzl]; omega)]
        · rw [map_set_int, hq, setP_snoc]
          exact ⟨_, rfl, same_new s3 hfo', upd_same⟩
      · subst es
        rw [List.take_of_length_le (l := qrs ring) (by unfold qrs; simp)] at ef3
        refine ⟨_, _, rfl, s3, ?_⟩
        rw [ef3, List.take_add_one, er]
        show some (HO.lst ((setP z (qrsS (S.take i) ++ qrs ring)).map V.int)) = some (.lst ((setP z (qrsS (S.take i ++ [ring]))).map V.int))
        unfold qrsS
        rw [List.flatMap_append, List.flatMap_singleton]
  · subst es
    rw [List.length_map, ← hal, List.take_length] at ef
    refine wb_one (ws_ret (we_var 2 rfl (q fo H2 (fun h => (setP z (qrsS S)).getD (h - 1).toNat 0) hfo' s2 (fun h v fv => set_of_fol ok hzl fv) ?_)))
    rw [ef, ← fs_whole (by rw [setP_len]; exact hzl)]
end
end R

/-! part K04F -/
set_option Elab.async false
set_option linter.all false
set_option maxRecDepth 100000
set_option maxHeartbeats 4000000
namespace R
open PySem L2 RS
section
variable {P : Program} {w : World} {K : PySem.W.Frag} {mg : Str → Option Value} {base : Heap} {CX : CXT}
/-! ### the law -/
abbrev sc_fur : Scope := { kind := .function, names := [(Str.ofString ".0", .local), (Str.ofString "ring", .local), (Str.ofString "many", .cell)], isGenerator := false, isCoroutine := false, more := [] }
theorem ok_law (F : Df K mg "law" ["script"] s_law) (B : Blt mg) (hCX : Strict CX) (Gd : Fd P w K mg base CX "_law_draw" ["script", "k"] 2 (spDraw K)) (Go : Fd P w K mg base CX "_law_order" ["script", "start", "many"] 3 (spOrder K)) (Gn : Fd P w K mg base CX "_law_numbers" ["found", "due"] 2 (spNumbers K)) (Gw : Fd P w K mg base CX "_law_drawn" ["script", "many"] 4 (spLDrawn K)) (Gu : Fd P w K mg base CX "_law_further" ["height", "many"] 1 spFurther)
    (Gl : Fd P w K mg base CX "_law_behind" ["rings", "many"] 1 spLBehind) (Gf : Fd P w K mg base CX "_law_refused" ["call", "rings"] 5 spRef4) (Gb : Fd P w K mg base CX "behind" ["rings"] 4 spBehind) (Gr : Fd P w K mg base CX "row_of" ["rings"] 4 spRowOf) (Gg : Fd P w K mg base CX "rings_of" ["row"] 4 spRings) :
    Fd P w K mg base CX "law" ["script"] 6 (spLaw K) := by
  refine F.ok sc_law (fun vs H Q E h => ?_) (fun f cdv A outer s H vs Q E hr h => ?_)
  · obtain ⟨a, ns, rfl, _⟩ := h; rfl
  obtain ⟨a, ns, rfl, hS, hz, q⟩ := h
  refine wb_cons (ws_set 1 sc_law.nd (we_add (we_int (we_mod (we_call Gd hr hCX.pass (wa_cons (we_var 0 rfl (wa_cons (we_int (wa_nil ⟨a, ns, 1, rfl, hS, by decide, ?_⟩))))))))))
  refine we_ixL (we_lst (wa_cons (we_int (wa_cons (we_int (wa_cons (we_int (wa_nil ⟨by show 3 ≤ sizeLine; decide, fun p hp => ?_⟩))))))))
  have s0 := same_upd hp (.lst [V.int 6, V.int 12, V.int 30])
  have e0 : (upd H p (.lst [V.int 6, V.int 12, V.int 30])) p = some (.lst ([6, 12, 30].map V.int)) := upd_same
  have hS0 := s0.seq hS
  refine we_mod (we_call Gd hr hCX.pass (wa_cons (we_var 0 rfl (wa_cons (we_int (wa_nil ⟨a, ns, 2, rfl, hS0, by decide, we_int (I2.mk ⟨by decide, ?_⟩)⟩))))))
  have d0 := Int.emod_nonneg (drawF ns 2) (show (3 : Int) ≠ 0 by decide)
  have d1 := Int.emod_lt_of_pos (drawF ns 2) (show (0 : Int) < 3 by decide)
  generalize drawF ns 2 % 3 = i at d0 d1
  have hc : 1 ≤ ([6, 12, 30] : List Int).getD i.toNat 0 ∧ ([6, 12, 30] : List Int).getD i.toNat 0 ≤ 30 := by
    have : i = 0 ∨ i = 1 ∨ i = 2 := by omega
    rcases this with rfl | rfl | rfl <;> decide
  refine ⟨p, [6, 12, 30].map V.int, i, _, rfl, rfl, SqL.of e0, at_int d0 (by simpa using d1), ?_⟩
  generalize ([6, 12, 30] : List Int).getD i.toNat 0 = c at hc
  refine I2.mk ⟨by omega, I2.mk ?_⟩
  have m0 := Int.emod_nonneg (drawF ns 1) (show c ≠ 0 by omega)
  have m1 := Int.emod_lt_of_pos (drawF ns 1) (show (0 : Int) < c by omega)
  obtain ⟨m, em, hm1, hm2⟩ : ∃ m : Nat, 1 + drawF ns 1 % c = (m : Int) ∧ 1 ≤ m ∧ m ≤ 30 := ⟨(1 + drawF ns 1 % c).toNat, by omega, by omega, by omega⟩
  rw [em]
  generalize upd H p (.lst [V.int 6, V.int 12, V.int 30]) = H0 at hS0
  clear s0 e0 m0 m1 em hc d0 d1 hS
  refine wb_cons (ws_set 2 sc_law.nd (we_call Gw hr hCX.pass (wa_cons (we_var 0 rfl (wa_cons (we_var 1 rfl (wa_nil ⟨a, ns, m, rfl, hS0, hm1, hm2, fun rg H1 S s1 hS1 ok => ?_⟩)))))))
  have hn1 := s1.seq hS0
  clear s1 hS0
  obtain ⟨as, hA, hR⟩ := id hS1
  have hal := Prd.len hR
  have hpos := rg_pos ok
  have hfew := ok.few
  have hfl := ok.len
  have hnd := ok.nodup
  refine wb_cons (ws_set 3 sc_law.nd (we_call Gd hr hCX.pass (wa_cons (we_var 0 rfl (wa_cons (we_int (wa_nil ⟨a, ns, 3, rfl, hn1, by decide, ?_⟩)))))))
  have hcl := drawF_lo ns 3
  generalize drawF ns 3 = cell at hcl
  refine wb_cons (ws_set 4 sc_law.nd (we_mod (we_fdiv (we_var 3 rfl (we_int (I2.mk ⟨⟨by decide, by decide⟩, we_len B.len (we_var 2 rfl ⟨rg, _, rfl, .inl (SqL.of hA), I2.mk ⟨by rw [List.length_map]; omega, ?_⟩⟩)⟩))))))
  rw [List.length_map]
  have k0 := Int.emod_nonneg (cell / 20) (show (as.length : Int) ≠ 0 by omega)
  have k1 := Int.emod_lt_of_pos (cell / 20) (show (0 : Int) < as.length by omega)
  obtain ⟨k, ek, hk⟩ : ∃ k : Nat, cell / 20 % (as.length : Int) = (k : Int) ∧ k < as.length := ⟨(cell / 20 % (as.length : Int)).toNat, by omega, by omega⟩
  rw [ek]
  clear k0 k1 ek
  refine wb_cons (ws_if (wt_lt (we_mod (we_var 3 rfl (we_int (I2.mk ⟨by decide, we_int (I2.mk (ifD (fun c6 => ?_) (fun c6 => wb_nil ?_)))⟩))))))
  · -- rings with a fault
    let Iv : St → Hp → Prop := fun σ' H' => ∃ sp T v6 v7, σ' = [some (.ref a), some (.int m), some (.ref rg), some (.int cell), some (.int (k : Int)), some (.ref sp), v6, v7, none, none, none, none, none] ∧ Same H1 H' ∧ SqAt H' sp T ∧ T.length ≤ 40 ∧ T.flatten.length ≤ 40 ∧ badRg T
    refine wb_cons (ws_setCompJ 5 N_law (defScope s_law) [] sc_law.nd (by decide +kernel) (wi_list (we_var 2 rfl ⟨rg, rfl, ⟨_, SqL.of hA⟩, ?_⟩)))
    refine compF_list (T := fun x o => o = .lst ((rowOf H1 x).map V.int)) (p := fun _ => true) (SqL.of hA) (by rw [List.length_map]; omega) (fun x H2 hx s2 => ⟨Same.refl _, rfl, fun _ cl C s0 H0 fp => ?_⟩) (fun D H2 cs hD s2 e2 hM => ?_)
    · obtain ⟨b, r, rfl, _, eb⟩ := hR.mem hx
      exact we_listOf B.list (we_var 0 rfl ⟨b, _, rfl, .inl (SqL.of (s2 _ _ eb)), fun r5 hr5 => ⟨same_upd hr5 _, r5, _, rfl, hr5, upd_same, by rw [rowOf_eq eb]⟩⟩)
    have hR2 := copied hR hM
    have hcn := hM.nd
    have hnew := hM.new
    have hcl2 := Prd.len hR2
    clear hM
    obtain ⟨b, hb, eb⟩ := hR2.nth (k := k) (by omega)
    have hbn := hnew b (List.mem_of_getElem? hb)
    have hkS : k < S.length := by omega
    have hgm : S.getD k [] ∈ S := by rw [List.getD_eq_getElem?_getD, List.getElem?_eq_getElem hkS]; exact List.getElem_mem _
    have hrl := ok.row hgm
    have hrp : 0 < (S.getD k []).length := List.length_pos_iff.mpr (ok.1 _ hgm)
    have hmem : ∀ j, j < (S.getD k []).length → (S.getD k []).getD j 0 ∈ S.flatten := fun j hj => List.mem_flatten.mpr ⟨_, hgm, getI_mem hj⟩
    have hbad := fun (j : Nat) (v : Int) (hj : j < (S.getD k []).length) (hv : v ≠ (S.getD k []).getD j 0) => bad_set ok hkS hj hv
    have hset := fun (H' : Hp) (h : RwsA H' S cs) (x : List Int) => h.set (ns := x) hcn hb
    have hlset : ∀ (j : Nat) (v : Int), (S.set k ((S.getD k []).set j v)).length ≤ 40 ∧ (S.set k ((S.getD k []).set j v)).flatten.length ≤ 40 := fun j v => by
      refine ⟨by rw [List.length_set]; omega, ?_⟩
      have e : ((S.set k ((S.getD k []).set j v)).map List.length) = S.map List.length := by
        rw [List.map_set, List.length_set]
        apply List.ext_getElem
        · simp
        · intro i h1 h2
          rw [List.getElem_set]
          split
          · next h => subst h; rw [List.getElem_map, List.getD_eq_getElem?_getD, List.getElem?_eq_getElem hkS]; rfl
          · rfl
      rw [List.length_flatten, e, ← List.length_flatten, hfl]; omega
    generalize hrow : S.getD k [] = row at *
    refine wb_cons (ws_set 6 sc_law.nd (we_mod (we_fdiv (we_var 3 rfl (we_int (I2.mk ⟨⟨by decide, by decide⟩, we_len B.len (we_ixL (we_var 5 rfl (we_var 4 rfl ⟨D, _, _, _, rfl, rfl, SqL.of e2, at_ref hb, b, _, rfl, .inl (SqL.of eb), I2.mk ⟨by rw [List.length_map]; omega, ?_⟩⟩)))⟩))))))
    rw [List.length_map]
    have k0 := Int.emod_nonneg (cell / 700) (show (row.length : Int) ≠ 0 by omega)
    have k1 := Int.emod_lt_of_pos (cell / 700) (show (0 : Int) < row.length by omega)
    obtain ⟨j, ej, hj⟩ : ∃ j : Nat, cell / 700 % (row.length : Int) = (j : Int) ∧ j < row.length := ⟨(cell / 700 % (row.length : Int)).toNat, by omega, by omega⟩
    rw [ej]
    clear k0 k1 ej
    refine wb_cons (ws_set 7 sc_law.nd (we_ixL (we_ixL (we_var 5 rfl (we_var 4 rfl ⟨D, _, _, _, rfl, rfl, SqL.of e2, at_ref hb, we_var 6 rfl ⟨b, _, _, _, rfl, rfl, SqL.of eb, at_int (by omega) (by omega), ?_⟩⟩)))))
    rw [Int.toNat_natCast]
    have hob := mem_bd ok.2.1 (hmem j hj)
    have hbadj := fun v hv => hbad j v hj hv
    generalize row.getD j 0 = old at hob hbadj
    -- the height changed
    refine wb_cons (ws_setIx set_list (we_ixL (we_lst (wa_cons (we_add (we_var 1 rfl (we_int (I2.mk (wa_cons (we_int (wa_cons (we_sub (we_neg (we_int ⟨_, rfl, we_mod (we_fdiv (we_var 3 rfl (we_int (I2.mk ⟨⟨by decide, by decide⟩, we_int (I2.mk ⟨by decide, I2.mk ?_⟩)⟩))))⟩))))))))))))))
    refine wa_cons (we_add (we_mod (we_var 7 rfl (we_var 1 rfl (I2.mk ⟨by omega, we_int (I2.mk (wa_nil ⟨by show 4 ≤ sizeLine; decide, fun p hp => ?_⟩))⟩)))))
    have c0 := Int.emod_nonneg (cell / 9000) (show (9 : Int) ≠ 0 by decide)
    generalize cell / 9000 % 9 = c9 at c0
    have o0 := Int.emod_nonneg old (show (m : Int) ≠ 0 by omega)
    have o1 := Int.emod_lt_of_pos old (show (0 : Int) < m by omega)
    have oo : old % (m : Int) + 1 = old → m = 1 := fun z => by
      by_cases hm : (m : Int) = old
      · rw [hm, Int.emod_self] at z; omega
      · rw [Int.emod_eq_of_lt (by omega) (by omega)] at z; omega
    have s3 := same_upd hp (.lst [V.int ((m : Int) + 1), V.int 0, V.int (-1 - c9), V.int (old % (m : Int) + 1)])
    have e3 : (upd H2 p (.lst [V.int ((m : Int) + 1), V.int 0, V.int (-1 - c9), V.int (old % (m : Int) + 1)])) p = some (.lst ([(m : Int) + 1, 0, -1 - c9, old % (m : Int) + 1].map V.int)) := upd_same
    generalize upd H2 p (.lst [V.int ((m : Int) + 1), V.int 0, V.int (-1 - c9), V.int (old % (m : Int) + 1)]) = H3 at s3 e3
    refine we_mod (we_fdiv (we_var 3 rfl (we_int (I2.mk ⟨⟨by decide, by decide⟩, we_int (I2.mk ⟨by decide, ?_⟩)⟩))))
    have t0 := Int.emod_nonneg (cell / 30) (show (4 : Int) ≠ 0 by decide)
    have t1 := Int.emod_lt_of_pos (cell / 30) (show (0 : Int) < 4 by decide)
    generalize cell / 30 % 4 = t at t0 t1
    refine ⟨p, _, t, _, rfl, rfl, SqL.of e3, at_int t0 (by simpa using t1), ?_⟩
    have hv : ([(m : Int) + 1, 0, -1 - c9, old % (m : Int) + 1] : List Int).getD t.toNat 0 = old → m = 1 := by
      have : t = 0 ∨ t = 1 ∨ t = 2 ∨ t = 3 := by omega
      rcases this with rfl | rfl | rfl | rfl
      · intro z; have z : (m : Int) + 1 = old := z; omega
      · intro z; have z : (0 : Int) = old := z; omega
      · intro z; have z : -1 - c9 = old := z; omega
      · exact oo
    generalize ([(m : Int) + 1, 0, -1 - c9, old % (m : Int) + 1] : List Int).getD t.toNat 0 = v at hv
    refine we_ixL (we_var 5 rfl (we_var 4 rfl ⟨D, _, _, _, rfl, rfl, SqL.of (s3 _ _ e2), at_ref hb, we_var 6 rfl ⟨b, _, _, j, rfl, rfl, s3 _ _ eb, ?_, ?_⟩⟩))
    · rw [ixN_nat (by omega) (by rw [List.length_map]; omega), Int.toNat_natCast]
    rw [map_set_int]
    have s23 := s2.trans s3
    have s4 : Same H1 (upd H3 b (.lst ((row.set j v).map V.int))) := same_new s23 hbn.1
    have e4 : (upd H3 b (.lst ((row.set j v).map V.int))) D = some (.lst (cs.map V.ref)) := by rw [upd_ne (Ne.symm hbn.2)]; exact s3 _ _ e2
    have eb4 : (upd H3 b (.lst ((row.set j v).map V.int))) b = some (.lst ((row.set j v).map V.int)) := upd_same
    have hR4 := hset H3 (hR2.same s3) (row.set j v)
    have hR4' : ∀ x : Int, RwsA (upd (upd H3 b (.lst ((row.set j v).map V.int))) b (.lst ((row.set j x).map V.int))) (S.set k (row.set j x)) cs := fun x => by
      have := hR4.set (ns := row.set j x) hcn hb
      rw [List.set_set] at this; exact this
    generalize upd H3 b (.lst ((row.set j v).map V.int)) = H4 at s4 e4 eb4 hR4 hR4'
    refine wb_cons (ws_mono (nx := Iv) ?_ fun σ5 H5 iv5 => ?_)
    · refine ws_if (wt_eq (we_ixL (we_ixL (we_var 5 rfl (we_var 4 rfl ⟨D, _, _, _, rfl, rfl, SqL.of e4, at_ref hb, we_var 6 rfl ⟨b, _, _, _, rfl, rfl, SqL.of eb4, at_int (by omega) (by rw [List.length_set]; omega), we_var 7 rfl ⟨rfl, ?_⟩⟩⟩)))))
      have ev : (row.set j v).getD ((j : Int)).toNat 0 = v := by rw [Int.toNat_natCast, List.getD_eq_getElem?_getD, List.getElem?_set_self hj]; rfl
      rw [ev]
      refine ifD (fun c => ?_) (fun c => wb_nil ⟨D, _, _, _, rfl, s4, ⟨cs, e4, hR4⟩, (hlset j v).1, (hlset j v).2, hbadj v fun z => c (by rw [z])⟩)
      have hvo : v = old := by injection c
      have hm11 := hv hvo
      refine wb_one (ws_setIx set_list (we_int (we_ixL (we_var 5 rfl (we_var 4 rfl ⟨D, _, _, _, rfl, rfl, SqL.of e4, at_ref hb, we_var 6 rfl ⟨b, _, _, j, rfl, rfl, eb4, ?_, ?_⟩⟩)))))
      · rw [ixN_nat (by omega) (by rw [List.length_map, List.length_set]; omega), Int.toNat_natCast]
      · rw [map_set_int, List.set_set]
        exact ⟨D, _, _, _, rfl, same_new s4 hbn.1, ⟨cs, by rw [upd_ne (Ne.symm hbn.2)]; exact e4, hR4' 2⟩, (hlset j 2).1, (hlset j 2).2, hbadj 2 (by omega)⟩
    clear hR4 hR4' eb4 e4 s4 hv oo hbadj hset hlset hbad hmem s3 e3 hR2 e2 s2 eb hnew
    -- an empty ring more
    refine wb_cons (ws_mono (nx := Iv) ?_ fun σ6 H6 iv6 => ?_)
    · obtain ⟨sp, T, v6, v7, es, sm, hT, hz1, hz2, hbT⟩ := id iv5
      subst es
      refine ws_if (wt_eq (we_mod (we_var 3 rfl (we_int (I2.mk ⟨by decide, we_int ⟨rfl, ifD (fun c => ?_) (fun c => wb_nil iv5)⟩⟩)))))
      have hA5 := sm _ _ hA
      refine wb_one (ws_set 5 sc_law.nd (we_cat (we_cat (we_sliceB (we_var 2 rfl (we_var 4 rfl ⟨_, rfl, rg, _, rfl, SqL.of hA5, fun x1 hx1 => ?_⟩))))))
      rw [cutV_B _ k (by rw [List.length_map]; omega), ← List.map_take]
      have g1 := (Hs.start H5).alloc (o := .lst ((as.take k).map V.ref)) hx1
      refine we_lst (wa_cons (we_lst (wa_nil ⟨Nat.zero_le _, fun x2 hx2 => wa_nil ⟨by show 1 ≤ sizeLine; decide, fun x3 hx3 => ?_⟩⟩)))
      have g2 := g1.alloc (o := .lst []) hx2
      have g3 := g2.alloc (o := .lst [V.ref x2]) hx3
      refine ⟨x1, x3, _, _, rfl, rfl, g3.get 2 rfl, g3.get 0 rfl, small_list (by simp; omega), fun x4 hx4 => ?_⟩
      have g4 := g3.alloc (o := .lst ((as.take k).map V.ref ++ [V.ref x2])) hx4
      refine we_sliceA (we_var 2 rfl (we_var 4 rfl ⟨_, rfl, rg, _, rfl, SqL.of (g4.old hA5), fun x5 hx5 => ?_⟩))
      rw [cutV_A _ k (by rw [List.length_map]; omega), ← List.map_drop]
      have g5 := g4.alloc (o := .lst ((as.drop k).map V.ref)) hx5
      refine ⟨x4, x5, _, _, rfl, rfl, g5.get 1 rfl, g5.get 0 rfl, small_list (by simp; omega), fun x6 hx6 => ?_⟩
      have g6 := g5.alloc (o := .lst ((as.take k).map V.ref ++ [V.ref x2] ++ (as.drop k).map V.ref)) hx6
      have gx := g6.get 0 rfl
      have g2x := g6.get 4 rfl
      have sg := g6.same
      refine ⟨x6, S.take k ++ [[]] ++ S.drop k, _, _, rfl, sm.trans sg, ⟨as.take k ++ [x2] ++ as.drop k, by rw [gx, List.map_append, List.map_append]; rfl, ?_⟩, ?_, ?_, .inl (by simp)⟩
      · exact Prd.append (Prd.append (Prd.take (hR.same (sm.trans sg)) k) (.cons g2x .nil)) (Prd.drop (hR.same (sm.trans sg)) k)
      · rw [(ins_perm2 k []).length_eq, List.length_cons]; omega
      · rw [(ins_perm2 k []).flatten.length_eq, List.flatten_cons, List.nil_append, hfl]; omega
    clear iv5
    -- one height twice
    refine wb_cons (ws_mono (nx := Iv) ?_ fun σ7 H7 iv7 => ?_)
    · obtain ⟨sp, T, v6, v7, es, sm, hT, hz1, hz2, hbT⟩ := id iv6
      subst es
      refine ws_if (wt_eq (we_mod (we_var 3 rfl (we_int (I2.mk ⟨by decide, we_int ⟨rfl, ifD (fun c => ?_) (fun c => wb_nil iv6)⟩⟩)))))
      have hA5 := sm _ _ hA
      obtain ⟨b0, hb0, eb0⟩ := (hR.same sm).nth (k := 0) hpos
      have hm0 : S.getD 0 [] ∈ S := by rw [List.getD_eq_getElem?_getD, List.getElem?_eq_getElem hpos]; exact List.getElem_mem _
      have hr0 : 0 < (S.getD 0 []).length := List.length_pos_iff.mpr (ok.1 _ hm0)
      have hx0 : (S.getD 0 []).getD 0 0 ∈ S.flatten := List.mem_flatten.mpr ⟨_, hm0, getI_mem hr0⟩
      refine wb_one (ws_set 5 sc_law.nd (we_cat (we_cat (we_sliceB (we_var 2 rfl (we_var 4 rfl ⟨_, rfl, rg, _, rfl, SqL.of hA5, fun x1 hx1 => ?_⟩))))))
      rw [cutV_B _ k (by rw [List.length_map]; omega), ← List.map_take]
      have g1 := (Hs.start H6).alloc (o := .lst ((as.take k).map V.ref)) hx1
      refine we_lst (wa_cons (we_lst (wa_cons (we_ixL (we_ixL (we_var 2 rfl (we_int ⟨rg, _, 0, _, rfl, rfl, SqL.of (g1.old hA5), at_ref (k := 0) hb0, we_int ⟨b0, _, 0, _, rfl, rfl, SqL.of (g1.old eb0), at_int (by decide) (by omega), wa_nil ⟨by show 1 ≤ sizeLine; decide, fun x2 hx2 => wa_nil ⟨by show 1 ≤ sizeLine; decide, fun x3 hx3 => ?_⟩⟩⟩⟩)))))))
      rw [show ((0 : Int)).toNat = 0 by rfl] at hx3 ⊢
      generalize (S.getD 0 []).getD 0 0 = x0 at hx0 hx3
      have g2 := g1.alloc (o := .lst [V.int x0]) hx2
      have g3 := g2.alloc (o := .lst [V.ref x2]) hx3
      refine ⟨x1, x3, _, _, rfl, rfl, g3.get 2 rfl, g3.get 0 rfl, small_list (by simp; omega), fun x4 hx4 => ?_⟩
      have g4 := g3.alloc (o := .lst ((as.take k).map V.ref ++ [V.ref x2])) hx4
      refine we_sliceA (we_var 2 rfl (we_var 4 rfl ⟨_, rfl, rg, _, rfl, SqL.of (g4.old hA5), fun x5 hx5 => ?_⟩))
      rw [cutV_A _ k (by rw [List.length_map]; omega), ← List.map_drop]
      have g5 := g4.alloc (o := .lst ((as.drop k).map V.ref)) hx5
      refine ⟨x4, x5, _, _, rfl, rfl, g5.get 1 rfl, g5.get 0 rfl, small_list (by simp; omega), fun x6 hx6 => ?_⟩
      have g6 := g5.alloc (o := .lst ((as.take k).map V.ref ++ [V.ref x2] ++ (as.drop k).map V.ref)) hx6
      have gx := g6.get 0 rfl
      have g2x := g6.get 4 rfl
      have sg := g6.same
      refine ⟨x6, S.take k ++ [[x0]] ++ S.drop k, _, _, rfl, sm.trans sg, ⟨as.take k ++ [x2] ++ as.drop k, by rw [gx, List.map_append, List.map_append]; rfl, ?_⟩, ?_, ?_, bad_dup hx0 (ins_perm2 k [x0])⟩
      · exact Prd.append (Prd.append (Prd.take (hR.same (sm.trans sg)) k) (.cons g2x .nil)) (Prd.drop (hR.same (sm.trans sg)) k)
      · rw [(ins_perm2 k [x0]).length_eq, List.length_cons]; omega
      · rw [(ins_perm2 k [x0]).flatten.length_eq, List.flatten_cons, List.length_append, hfl]; simp; omega
    clear iv6
    -- none
    refine wb_cons (ws_mono (nx := Iv) ?_ fun σ8 H8 iv8 => ?_)
    · obtain ⟨sp, T, v6, v7, es, sm, hT, hz1, hz2, hbT⟩ := id iv7
      subst es
      refine ws_if (wt_eq (we_mod (we_var 3 rfl (we_int (I2.mk ⟨by decide, we_int ⟨rfl, ifD (fun c => ?_) (fun c => wb_nil iv7)⟩⟩)))))
      exact wb_one (ws_set 5 sc_law.nd (we_lst (wa_nil ⟨Nat.zero_le _, fun x hx => ⟨x, [], _, _, rfl, sm.trans (same_upd hx _), ⟨[], upd_same, .nil⟩, by simp, by simp, .inr (.inl (by simp))⟩⟩)))
    clear iv7
    -- too many
    refine wb_cons (ws_mono (nx := Iv) ?_ fun σ9 H9 iv9 => ?_)
    · obtain ⟨sp, T, v6, v7, es, sm, hT, hz1, hz2, hbT⟩ := id iv8
      subst es
      refine ws_if (wt_eq (we_mod (we_var 3 rfl (we_int (I2.mk ⟨by decide, we_int ⟨rfl, ifD (fun c => ?_) (fun c => wb_nil iv8)⟩⟩)))))
      refine wb_one (ws_set 5 sc_law.nd (we_lst (wa_cons (we_call Go hr hCX.pass (wa_cons (we_var 0 rfl (wa_cons (we_int (wa_cons (we_int (wa_nil ⟨a, ns, 100, 31, rfl, sm.seq hn1, by decide, by decide, by decide, fun r H10 row hr10 s10 e10 hpm => wa_nil ⟨by show 1 ≤ sizeLine; decide, fun x hx => ?_⟩⟩)))))))))))
      have h31 : row.length = 31 := by rw [hpm.length_eq, whole_length]; rfl
      have sx := same_upd hx (.lst [V.ref r])
      exact ⟨x, [row], _, _, rfl, (sm.trans s10).trans sx, ⟨[r], upd_same, .cons (sx _ _ e10) .nil⟩, by simp, by simp; omega, .inr (.inr (.inl (by simp; omega)))⟩
    clear iv8
    -- the least and the greatest further out
    refine wb_cons (ws_mono (nx := Iv) ?_ fun σ10 H10 iv10 => ?_)
    · obtain ⟨sp, T, v6, v7, es, sm, hT, hz1, hz2, hbT⟩ := id iv9
      subst es
      refine ws_if (wt_eq (we_mod (we_var 3 rfl (we_int (I2.mk ⟨by decide, we_int ⟨rfl, ifD (fun c => ?_) (fun c => wb_nil iv9)⟩⟩)))))
      have hA9 := sm _ _ hA
      have hR9 := hR.same sm
      refine wb_one (ws_setCompJ 5 N_law (defScope s_law) [1] sc_law.nd (by decide +kernel) (wi_list (we_var 2 rfl ⟨rg, rfl, ⟨_, SqL.of hA9⟩, ?_⟩)))
      refine compF_list (T := fun x o => o = .lst (((rowOf H9 x).map fun h => furF h m).map V.int)) (p := fun _ => true) (SqL.of hA9) (by rw [List.length_map]; omega) (fun x H11 hx s11 => ⟨Same.refl _, rfl, fun _ cl C s0 H0 fp => ?_⟩) (fun D2 H11 ds hD2 s11 e11 hM => ?_)
      · obtain ⟨b2, r, rfl, hrm, eb2⟩ := hR9.mem hx
        have := ok.row hrm
        refine we_compJ ["ring", "many"] sc_fur [1] (by decide +kernel) (wi_list (we_var 0 rfl ⟨b2, rfl, ⟨_, SqL.of (s11 _ _ eb2)⟩, ?_⟩))
        refine compP_list (f := fun v => V.int (furF (unI v) m)) (p := fun _ => true) (SqL.of (s11 _ _ eb2)) (by rw [List.length_map]; omega) (fun y H12 hy s12 => ⟨Same.refl _, rfl, fun _ cl C s0 H0 fp => ?_⟩) (fun D3 H12 hD3 s12 e12 => ?_)
        · obtain ⟨h, _, rfl⟩ := List.mem_map.mp hy
          exact we_call Gu hr hCX.pass (wa_cons (we_var 0 rfl (wa_cons (we_var 1 rfl (wa_nil ⟨h, m, rfl, Same.refl _, rfl⟩)))))
        · refine ⟨s12, D3, _, rfl, hD3, e12, ?_⟩
          rw [filter_all, rowOf_eq eb2, List.map_map, List.map_map]; rfl
      · have hC : RwsA H11 (((as.map V.ref).filter fun _ => true).map fun v => (rowOf H9 v).map fun h => furF h m) ds := RwsA.of_made (g := fun v => (rowOf H9 v).map fun h => furF h m) hM
        rw [filter_all, hR9.refs fun r => r.map fun h => furF h m] at hC
        have hfm : (S.map fun r => r.map fun h => furF h m).flatten = S.flatten.map fun h => furF h m := by rw [List.map_flatten]
        refine ⟨D2, _, _, _, rfl, sm.trans s11, ⟨ds, e11, hC⟩, by rw [List.length_map]; omega, by rw [hfm, List.length_map]; omega, bad_mem (x := 0) ?_ (by decide)⟩
        rw [hfm]
        have h1 : (1 : Int) ∈ S.flatten := ok.2.1.symm.subset (by unfold whole; exact List.mem_map.mpr ⟨0, List.mem_range.mpr (by omega), rfl⟩)
        exact List.mem_map.mpr ⟨1, h1, rfl⟩
    clear iv9
    obtain ⟨sp, T, v6, v7, es, sm, hT, hz1, hz2, hbT⟩ := iv10
    subst es
    obtain ⟨ts, hTa, hTr⟩ := id hT
    have htl := Prd.len hTr
    refine wb_cons (ws_setCompJ 8 N_law (defScope s_law) [] sc_law.nd (by decide +kernel) (wi_list (we_var 5 rfl ⟨sp, rfl, ⟨_, SqL.of hTa⟩, ?_⟩)))
    refine compF_list (T := fun x o => o = .lst ((rowOf H10 x).map V.int)) (p := fun _ => true) (SqL.of hTa) (by rw [List.length_map]; omega) (fun x H11 hx s11 => ⟨Same.refl _, rfl, fun _ cl C s0 H0 fp => ?_⟩) (fun D2 H11 ds hD2 s11 e11 hM => ?_)
    · obtain ⟨b2, r, rfl, _, eb2⟩ := hTr.mem hx
      exact we_listOf B.list (we_var 0 rfl ⟨b2, _, rfl, .inl (SqL.of (s11 _ _ eb2)), fun r5 hr5 => ⟨same_upd hr5 _, r5, _, rfl, hr5, upd_same, by rw [rowOf_eq eb2]⟩⟩)
    have dT : SqAt H11 D2 T := ⟨ds, e11, copied hTr hM⟩
    have hT11 := hT.same s11
    refine wb_one (ws_ret (we_and (we_eq (we_call Gf hr hCX.pass (wa_cons (we_int (wa_cons (we_var 8 rfl (wa_nil ⟨_, D2, T, rfl, dT, by omega, by omega, hbT, fun H12 s12 => we_int ⟨rfl, B1.mk (ifT rfl ?_)⟩⟩)))))))))
    refine we_and (we_eq (we_call Gf hr hCX.pass (wa_cons (we_int (wa_cons (we_var 8 rfl (wa_nil ⟨_, D2, T, rfl, dT.same s12, by omega, by omega, hbT, fun H13 s13 => we_int ⟨rfl, B1.mk (ifT rfl ?_)⟩⟩)))))))
    have s113 := s12.trans s13
    refine we_one (we_cmp (op_eqD hr.u8) (nomark _) (we_var 8 rfl (we_var 5 rfl ⟨_, _, (dT.same s113).dv, (hT11.same s113).dv, lay_rows T, lay_rows T, Nat.le_trans (Nat.min_le_left _ _) (Nat.le_trans (deep_rows T) (by decide)), ?_⟩)))
    show Q (.bl (PyData.eqv (rowsD T) (rowsD T))) _
    rw [eqv_rows, decide_eq_true rfl]
    exact q _
  -- rings without
  refine wb_cons (ws_setCompJ 8 N_law (defScope s_law) [] sc_law.nd (by decide +kernel) (wi_list (we_var 2 rfl ⟨rg, rfl, ⟨_, SqL.of hA⟩, ?_⟩)))
  refine compF_list (T := fun x o => o = .lst ((rowOf H1 x).map V.int)) (p := fun _ => true) (SqL.of hA) (by rw [List.length_map]; omega) (fun x H2 hx s2 => ⟨Same.refl _, rfl, fun _ cl C s0 H0 fp => ?_⟩) (fun D H2 cs hD s2 e2 hM => ?_)
  · obtain ⟨b, r, rfl, _, eb⟩ := hR.mem hx
    exact we_listOf B.list (we_var 0 rfl ⟨b, _, rfl, .inl (SqL.of (s2 _ _ eb)), fun r5 hr5 => ⟨same_upd hr5 _, r5, _, rfl, hr5, upd_same, by rw [rowOf_eq eb]⟩⟩)
  have dS : SqAt H2 D S := ⟨cs, e2, copied hR hM⟩
  have hS2 := hS1.same s2
  have wl : ∀ g : Int → Int, ((whole m).map g).length ≤ 100 := fun g => by rw [List.length_map, whole_length]; omega
  refine wb_cons (ws_set 9 sc_law.nd (we_call Gl hr hCX.pass (wa_cons (we_var 2 rfl (wa_cons (we_var 1 rfl (wa_nil ⟨rg, S, m, rfl, hS2, ok, fun du H3 g0 hdu s3 hg0 e3 => ?_⟩)))))))
  refine wb_cons (ws_set 10 sc_law.nd (we_call Gb hr hCX.pass (wa_cons (we_var 8 rfl (wa_nil ⟨D, S, m, rfl, dS.same s3, ok, fun fo H4 g1 hfo s4 hg1 e4 => ?_⟩)))))
  refine wb_cons (ws_if (WW.wt (ww_or (wt_not (wt_val (we_call Gn hr hCX.pass (wa_cons (we_var 10 rfl (wa_cons (we_var 9 rfl (wa_nil ⟨fo, du, _, _, rfl, e4, SqL.of (s4 _ _ e3), wl _, fun H5 s5 => B1.mk ?_⟩)))))))))))
  rw [decide_eq_true (fol_eq ok.2.1 hg1 hg0)]
  refine ifF (by decide) ?_
  have s35 := (s3.trans s4).trans s5
  refine ww_or1 (wt_cmp (op_neD hr.u8) (nomark _) (we_var 8 rfl (we_var 2 rfl ⟨_, _, (dS.same s35).dv, (hS2.same s35).dv, lay_rows S, lay_rows S, Nat.le_trans (Nat.min_le_left _ _) (Nat.le_trans (deep_rows S) (by decide)), B1.mk ?_⟩)))
  show if (!PyData.eqv (rowsD S) (rowsD S)) = true then _ else _
  rw [eqv_rows, decide_eq_true rfl]
  refine ifF (by decide) (wb_nil ?_)
  have e5 := s5 _ _ e4
  refine wb_cons (ws_expr (we_append (we_var 10 rfl ⟨fo, rfl, ⟨_, SqL.of e5⟩, we_int ⟨_, e5, small1000 (by rw [List.length_map]; exact Nat.le_trans (wl _) (by decide)), ?_⟩⟩)))
  have s6 : Same H3 (upd H5 fo (.lst (((whole m).map g1).map V.int ++ [.int 0]))) := same_new (s4.trans s5) hfo
  generalize upd H5 fo (.lst (((whole m).map g1).map V.int ++ [.int 0])) = H6 at s6
  have edu6 := s6 _ _ e3
  have s16 := (s2.trans s3).trans s6
  have hA6 := s16 _ _ hA
  have hR6 := hR.same s16
  have dS6 := (dS.same s3).same s6
  clear e5 e4 e3 s35 dS hS2 s5 s4 s3 s2 e2 hM
  -- from other beginnings, in another order
  refine wb_cons (ws_setCompJ 11 N_law (defScope s_law) [] sc_law.nd (by decide +kernel) (wi_list (we_turn (k := k) hA6 (by rw [List.length_map]; omega) (by rw [List.length_map]; omega) (fun H' _ => we_var 2 rfl ⟨rfl, rfl⟩) (fun H' _ => we_var 4 rfl ⟨rfl, rfl⟩) (fun H' _ => we_var 2 rfl ⟨rfl, rfl⟩) (fun H' _ => we_var 4 rfl ⟨rfl, rfl⟩) fun tl H7 htl s7 e7 => ⟨tl, rfl, ⟨_, SqL.of e7⟩, ?_⟩)))
  rw [← List.map_drop, ← List.map_take, ← List.map_append] at e7
  have hR7 : RwsA H7 (S.drop k ++ S.take k) (as.drop k ++ as.take k) := Prd.append (Prd.drop (hR6.same s7) k) (Prd.take (hR6.same s7) k)
  have hrp := rot_perm S k
  have okR := ok.perm hrp
  generalize S.drop k ++ S.take k = R at hR7 hrp okR
  generalize as.drop k ++ as.take k = rs at hR7 e7
  have hrl := Prd.len hR7
  have hRl : R.length = S.length := hrp.length_eq
  refine compF_list (T := fun x o => o = .lst (((rowOf H7 x).drop 1 ++ (rowOf H7 x).take 1).map V.int)) (p := fun _ => true) (SqL.of e7) (by rw [List.length_map]; omega) (fun x H8 hx s8 => ⟨Same.refl _, rfl, fun _ cl C s0 H0 fp => ?_⟩) (fun ot H8 os hot s8 e8 hM => ?_)
  · obtain ⟨b, r, rfl, hrm, eb⟩ := hR7.mem hx
    have h1 : 0 < r.length := List.length_pos_iff.mpr (okR.1 r hrm)
    have h2 := okR.row hrm
    refine we_turn (k := 1) (s8 _ _ eb) (by rw [List.length_map]; omega) (by rw [List.length_map]; omega) (fun H' _ => we_var 0 rfl ⟨rfl, rfl⟩) (fun H' _ => we_int ⟨rfl, rfl⟩) (fun H' _ => we_var 0 rfl ⟨rfl, rfl⟩) (fun H' _ => we_int ⟨rfl, rfl⟩) fun r9 H9 hr9 s9 e9 => ⟨s9, r9, _, rfl, hr9, e9, ?_⟩
    rw [turn_map, rowOf_eq eb]
  have hC : RwsA H8 (((rs.map V.ref).filter fun _ => true).map fun v => (rowOf H7 v).drop 1 ++ (rowOf H7 v).take 1) os := RwsA.of_made (g := fun v => (rowOf H7 v).drop 1 ++ (rowOf H7 v).take 1) hM
  rw [filter_all, hR7.refs fun r => r.drop 1 ++ r.take 1] at hC
  have hT := turned_map R 1
  have okT := turned_ok hT okR
  have begT := begs_one hT okR.1 fun r hr => flat_nodup hr okR.nodup
  generalize (R.map fun r => r.drop 1 ++ r.take 1) = T at hC hT okT begT
  have folT : ∀ h v, FolS S h v → FolS T h v := fun h v fv => (fv.sub fun r hr => hrp.symm.subset hr).turn hT
  have oT : SqAt H8 ot T := ⟨os, e8, hC⟩
  have s68 := s7.trans s8
  have dS8 := dS6.same s68
  have edu8 := s68 _ _ edu6
  have rS8 : SqAt H8 rg S := ⟨as, s68 _ _ hA6, hR6.same s68⟩
  refine wb_cons (ws_if (WW.wt (ww_or (wt_not (wt_val (we_call Gn hr hCX.pass (wa_cons (we_call Gb hr hCX.pass (wa_cons (we_var 11 rfl (wa_nil ⟨ot, T, m, rfl, oT, okT, fun f2 H9 g2 hf2 s9 hg2 e9 => wa_cons (we_var 9 rfl (wa_nil ⟨f2, du, _, _, rfl, e9, SqL.of (s9 _ _ edu8), wl _, fun H10 s10 => B1.mk ?_⟩))⟩)))))))))))
  rw [decide_eq_true (fol_eq ok.2.1 (fun h v fv => hg2 h v (folT h v fv)) hg0)]
  refine ifF (by decide) ?_
  have s810 := s9.trans s10
  refine ww_or1 (wt_cmp (op_neI hr.u8) (nomark _) (we_call Gr hr hCX.pass (wa_cons (we_var 11 rfl (wa_nil ⟨ot, T, m, rfl, oT.same s810, okT, fun r1 H11 S1 hr1 s11 hp1 hs1 e11 => ?_⟩)))))
  refine we_call Gr hr hCX.pass (wa_cons (we_var 8 rfl (wa_nil ⟨D, S, m, rfl, dS8.same (s810.trans s11), ok, fun r2 H12 S2 hr2 s12 hp2 hs2 e12 => ?_⟩)))
  have e12' : S1 = S2 := by
    refine rings_one (hp1.trans ?_) hs1 hs2
    rw [begT]
    exact (hrp.map begF).trans hp2.symm
  subst e12'
  refine ⟨r1, r2, _, _, rfl, rfl, SqL.of (s12 _ _ e11), SqL.of e12, B1.mk (ifDN (fun c => absurd rfl c) (fun _ => wb_nil ?_))⟩
  have s812 := (s810.trans s11).trans s12
  -- the rings of the row
  refine wb_cons (ws_set 12 sc_law.nd (we_call Gg hr hCX.pass (wa_cons (we_call Gr hr hCX.pass (wa_cons (we_var 8 rfl (wa_nil ⟨D, S, m, rfl, dS8.same s812, ok, fun r3 H13 S3 hr3 s13 hp3 hs3 e13 => ?_⟩)))))))
  have ok3 := ok.begun hp3
  refine wa_nil ⟨r3, S3.flatten, m, rfl, e13, ok3.2.1, hm1, hm2, fun to H14 ts hto s14 e14 hM14 => ?_⟩
  have hR14 : RwsA H14 S3 ts := by
    have := RwsA.of_made (g := fun x => x) hM14
    rw [List.map_id', row_cuts ok hp3 hs3] at this; exact this
  have s814 := (s812.trans s13).trans s14
  have l3 : S3.length = S.length := by rw [hp3.length_eq, List.length_map]
  have lts := Prd.len hR14
  refine wb_one (ws_ret (we_and (we_eq (we_len B.len (we_var 12 rfl ⟨to, _, rfl, .inl (SqL.of e14), we_len B.len (we_var 2 rfl ⟨rg, _, rfl, .inl (SqL.of ((s68.trans s814) _ _ hA6)), rfl, B1.mk ?_⟩)⟩)))))
  rw [List.length_map, List.length_map, ← lts, ← hal, l3, decide_eq_true rfl]
  refine ifT rfl (we_one (we_call Gn hr hCX.pass (wa_cons (we_call Gb hr hCX.pass (wa_cons (we_var 12 rfl (wa_nil ⟨to, S3, m, rfl, ⟨ts, e14, hR14⟩, ok3, fun f5 H15 g5 hf5 s15 hg5 e15 => wa_cons (we_var 9 rfl (wa_nil ⟨f5, du, _, _, rfl, e15, SqL.of (s15 _ _ (s814 _ _ edu8)), wl _, fun H16 s16 => ?_⟩))⟩)))))))
  rw [decide_eq_true (fol_eq ok.2.1 (fun h v fv => hg5 h v ((fv.turn (begs_turned S)).sub fun r hr => hp3.symm.subset hr)) hg0)]
  exact q H16
end
end R

/-! part K04Z -/
set_option Elab.async false
set_option linter.all false
set_option maxRecDepth 100000
set_option maxHeartbeats 4000000
open PySem PySem.W PyProof.Rows
set_option maxRecDepth 100000 in
set_option maxHeartbeats 0 in
theorem PySem.Challenge.cw_rowsight_k04_rings_and_who_is_behind_holds : PySem.Challenge.rw_rowsight_k04_rings_and_who_is_behind.Holds := by
  w_on; o_law; k_head; (case hw => w_witness2)
  k_fill
  refine L2.walk_ofX (l := PySem.Challenge.rw_rowsight_k04_rings_and_who_is_behind) (n := 63) (k := 6) (x := "script") (CX := fun w => (L2.CXE PySem.Challenge.rw_rowsight_k04_rings_and_who_is_behind.prog w)) (sp := R.spLaw) rfl (by decide) rfl ⟨rfl, by decide, by decide⟩ (fun w h Y => PySem.W.kIn_of Y) ?F ?S ?C
  case F =>
    intro w mg fa h KX G hmg
    have D_is_whole_number : L2.Df (L2.KOf KX) mg "is_whole_number" ["value"] R.s_is_whole_number := by
      dsimp only [L2.KOf]
      refine' L2.df_mk KX G ?a ?l ?c ?k ?b
      (case a => k_is); (case l => k_is); (case c => k_is); (case k => k_is)
      (case b => exact fun _ _ _ _ _ _ us hl => match us, hl with | [_], _ => rfl)
    have D_check_row : L2.Df (L2.KOf KX) mg "check_row" ["row"] R.s_check_row := by
      dsimp only [L2.KOf]
      refine' L2.df_mk KX G ?a ?l ?c ?k ?b
      (case a => k_is); (case l => k_is); (case c => k_is); (case k => k_is)
      (case b => exact fun _ _ _ _ _ _ us hl => match us, hl with | [_], _ => rfl)
    have D_has_each_once : L2.Df (L2.KOf KX) mg "has_each_once" ["heights", "many"] R.s_has_each_once := by
      dsimp only [L2.KOf]
      refine' L2.df_mk KX G ?a ?l ?c ?k ?b
      (case a => k_is); (case l => k_is); (case c => k_is); (case k => k_is)
      (case b => exact fun _ _ _ _ _ _ us hl => match us, hl with | [_, _], _ => rfl)
    have D_check_whole_row : L2.Df (L2.KOf KX) mg "check_whole_row" ["row"] R.s_check_whole_row := by
      dsimp only [L2.KOf]
      refine' L2.df_mk KX G ?a ?l ?c ?k ?b
      (case a => k_is); (case l => k_is); (case c => k_is); (case k => k_is)
      (case b => exact fun _ _ _ _ _ _ us hl => match us, hl with | [_], _ => rfl)
    have D_seen_along : L2.Df (L2.KOf KX) mg "seen_along" ["row", "places"] R.s_seen_along := by
      dsimp only [L2.KOf]
      refine' L2.df_mk KX G ?a ?l ?c ?k ?b
      (case a => k_is); (case l => k_is); (case c => k_is); (case k => k_is)
      (case b => exact fun _ _ _ _ _ _ us hl => match us, hl with | [_, _], _ => rfl)
    have D_front : L2.Df (L2.KOf KX) mg "front" ["row"] R.s_front := by
      dsimp only [L2.KOf]
      refine' L2.df_mk KX G ?a ?l ?c ?k ?b
      (case a => k_is); (case l => k_is); (case c => k_is); (case k => k_is)
      (case b => exact fun _ _ _ _ _ _ us hl => match us, hl with | [_], _ => rfl)
    have D_joined : L2.Df (L2.KOf KX) mg "joined" ["rings"] R.s_joined := by
      dsimp only [L2.KOf]
      refine' L2.df_mk KX G ?a ?l ?c ?k ?b
      (case a => k_is); (case l => k_is); (case c => k_is); (case k => k_is)
      (case b => exact fun _ _ _ _ _ _ us hl => match us, hl with | [_], _ => rfl)
    have D_check_rings : L2.Df (L2.KOf KX) mg "check_rings" ["rings"] R.s_check_rings := by
      dsimp only [L2.KOf]
      refine' L2.df_mk KX G ?a ?l ?c ?k ?b
      (case a => k_is); (case l => k_is); (case c => k_is); (case k => k_is)
      (case b => exact fun _ _ _ _ _ _ us hl => match us, hl with | [_], _ => rfl)
    have D_rings_of : L2.Df (L2.KOf KX) mg "rings_of" ["row"] R.s_rings_of := by
      dsimp only [L2.KOf]
      refine' L2.df_mk KX G ?a ?l ?c ?k ?b
      (case a => k_is); (case l => k_is); (case c => k_is); (case k => k_is)
      (case b => exact fun _ _ _ _ _ _ us hl => match us, hl with | [_], _ => rfl)
    have D_begun_at_greatest : L2.Df (L2.KOf KX) mg "begun_at_greatest" ["ring"] R.s_begun_at_greatest := by
      dsimp only [L2.KOf]
      refine' L2.df_mk KX G ?a ?l ?c ?k ?b
      (case a => k_is); (case l => k_is); (case c => k_is); (case k => k_is)
      (case b => exact fun _ _ _ _ _ _ us hl => match us, hl with | [_], _ => rfl)
    have D_row_of : L2.Df (L2.KOf KX) mg "row_of" ["rings"] R.s_row_of := by
      dsimp only [L2.KOf]
      refine' L2.df_mk KX G ?a ?l ?c ?k ?b
      (case a => k_is); (case l => k_is); (case c => k_is); (case k => k_is)
      (case b => exact fun _ _ _ _ _ _ us hl => match us, hl with | [_], _ => rfl)
    have D_behind : L2.Df (L2.KOf KX) mg "behind" ["rings"] R.s_behind := by
      dsimp only [L2.KOf]
      refine' L2.df_mk KX G ?a ?l ?c ?k ?b
      (case a => k_is); (case l => k_is); (case c => k_is); (case k => k_is)
      (case b => exact fun _ _ _ _ _ _ us hl => match us, hl with | [_], _ => rfl)
    have D_law_cell_at : L2.Df (L2.KOf KX) mg "_law_cell_at" ["script", "k"] R.s_law_cell_at := by
      dsimp only [L2.KOf]
      refine' L2.df_mk KX G ?a ?l ?c ?k ?b
      (case a => k_is); (case l => k_is); (case c => k_is); (case k => k_is)
      (case b => exact fun _ _ _ _ _ _ us hl => match us, hl with | [_, _], _ => rfl)
    have D_law_draw : L2.Df (L2.KOf KX) mg "_law_draw" ["script", "k"] R.s_law_draw := by
      dsimp only [L2.KOf]
      refine' L2.df_mk KX G ?a ?l ?c ?k ?b
      (case a => k_is); (case l => k_is); (case c => k_is); (case k => k_is)
      (case b => exact fun _ _ _ _ _ _ us hl => match us, hl with | [_, _], _ => rfl)
    have D_law_whole : L2.Df (L2.KOf KX) mg "_law_whole" ["found"] R.s_law_whole := by
      dsimp only [L2.KOf]
      refine' L2.df_mk KX G ?a ?l ?c ?k ?b
      (case a => k_is); (case l => k_is); (case c => k_is); (case k => k_is)
      (case b => exact fun _ _ _ _ _ _ us hl => match us, hl with | [_], _ => rfl)
    have D_law_order : L2.Df (L2.KOf KX) mg "_law_order" ["script", "start", "many"] R.s_law_order := by
      dsimp only [L2.KOf]
      refine' L2.df_mk KX G ?a ?l ?c ?k ?b
      (case a => k_is); (case l => k_is); (case c => k_is); (case k => k_is)
      (case b => exact fun _ _ _ _ _ _ us hl => match us, hl with | [_, _, _], _ => rfl)
    have D_law_numbers : L2.Df (L2.KOf KX) mg "_law_numbers" ["found", "due"] R.s_law_numbers := by
      dsimp only [L2.KOf]
      refine' L2.df_mk KX G ?a ?l ?c ?k ?b
      (case a => k_is); (case l => k_is); (case c => k_is); (case k => k_is)
      (case b => exact fun _ _ _ _ _ _ us hl => match us, hl with | [_, _], _ => rfl)
    have D_law_alone : L2.Df (L2.KOf KX) mg "_law_alone" ["e"] R.s_law_alone := by
      dsimp only [L2.KOf]
      refine' L2.df_mk KX G ?a ?l ?c ?k ?b
      (case a => k_is); (case l => k_is); (case c => k_is); (case k => k_is)
      (case b => exact fun _ _ _ _ _ _ us hl => match us, hl with | [_], _ => rfl)
    have D_law_drawn : L2.Df (L2.KOf KX) mg "_law_drawn" ["script", "many"] R.s_law_drawn := by
      dsimp only [L2.KOf]
      refine' L2.df_mk KX G ?a ?l ?c ?k ?b
      (case a => k_is); (case l => k_is); (case c => k_is); (case k => k_is)
      (case b => exact fun _ _ _ _ _ _ us hl => match us, hl with | [_, _], _ => rfl)
    have D_law_behind : L2.Df (L2.KOf KX) mg "_law_behind" ["rings", "many"] R.s_law_behind := by
      dsimp only [L2.KOf]
      refine' L2.df_mk KX G ?a ?l ?c ?k ?b
      (case a => k_is); (case l => k_is); (case c => k_is); (case k => k_is)
      (case b => exact fun _ _ _ _ _ _ us hl => match us, hl with | [_, _], _ => rfl)
    have D_law_further : L2.Df (L2.KOf KX) mg "_law_further" ["height", "many"] R.s_law_further := by
      dsimp only [L2.KOf]
      refine' L2.df_mk KX G ?a ?l ?c ?k ?b
      (case a => k_is); (case l => k_is); (case c => k_is); (case k => k_is)
      (case b => exact fun _ _ _ _ _ _ us hl => match us, hl with | [_, _], _ => rfl)
    have D_law_refused : L2.Df (L2.KOf KX) mg "_law_refused" ["call", "rings"] R.s_law_refused := by
      dsimp only [L2.KOf]
      refine' L2.df_mk KX G ?a ?l ?c ?k ?b
      (case a => k_is); (case l => k_is); (case c => k_is); (case k => k_is)
      (case b => exact fun _ _ _ _ _ _ us hl => match us, hl with | [_, _], _ => rfl)
    have D_law : L2.Df (L2.KOf KX) mg "law" ["script"] R.s_law := by
      dsimp only [L2.KOf]
      refine' L2.df_mk KX G ?a ?l ?c ?k ?b
      (case a => k_is); (case l => k_is); (case c => k_is); (case k => k_is)
      (case b => exact fun _ _ _ _ _ _ us hl => match us, hl with | [_], _ => rfl)
    have B : R.Blt mg := by
      refine' ⟨PySem.W.mg_none_of KX G ?b0, PySem.W.mg_none_of KX G ?b1, PySem.W.mg_none_of KX G ?b2, PySem.W.mg_none_of KX G ?b3, PySem.W.mg_none_of KX G ?b4, PySem.W.mg_none_of KX G ?b5, PySem.W.mg_none_of KX G ?b6, PySem.W.mg_none_of KX G ?b7, PySem.W.mg_none_of KX G ?b8, PySem.W.mg_none_of KX G ?b9, PySem.W.mg_none_of KX G ?b10, PySem.W.mg_none_of KX G ?b11, PySem.W.mg_none_of KX G ?b12, PySem.W.mg_none_of KX G ?b13, PySem.W.mg_none_of KX G ?b14, PySem.W.mg_none_of KX G ?b15⟩
      (case b0 => k_is); (case b1 => k_is); (case b2 => k_is); (case b3 => k_is); (case b4 => k_is); (case b5 => k_is); (case b6 => k_is); (case b7 => k_is); (case b8 => k_is); (case b9 => k_is); (case b10 => k_is); (case b11 => k_is); (case b12 => k_is); (case b13 => k_is); (case b14 => k_is); (case b15 => k_is)
    have c_MOST_HEIGHTS : ∃ t, mg "MOST_HEIGHTS" = some (.int 30 t) := by
      refine' L2.int_mk KX G ?m ?e
      (case m => k_is)
      (case e => exact rfl)
    obtain ⟨Cs, Cr, Cg, Cn, Cq, XD, XC⟩ : ∃ Cs Cr Cg Cn Cq, R.ExD (L2.KOf KX) mg Cg Cs Cr Cg Cn Cq 1 ∧ R.ExC (L2.KOf KX) mg "BadRings" Cg := by
      dsimp only [L2.KOf]
      refine' ⟨_, _, _, _, _, R.exd_mk KX G ?ms ?m1 ?m2 ?m3 ?m4 ?ls ?l1 ?l2 ?l3 ?l4 ?lD ?i1 ?i2 ?i3 ?i4 ?i5 ?i6 ?i7 ?q1 ?q2 ?q3 ?q4 ?qs ?qv ?qb ?b1 ?b2 ?b3 ?b4 (by decide), L2.ref_mk KX G ?mx, L2.exc_of ?xl ?xs ?x1 ?x2 ?x3 ?x4 ?x5 ?y1 ?y2 ?y3 ?y4 ?z1 ?z2⟩
      (case ms => k_is); (case m1 => k_is); (case m2 => k_is); (case m3 => k_is); (case m4 => k_is); (case ls => k_is); (case l1 => k_is); (case l2 => k_is); (case l3 => k_is); (case l4 => k_is); (case lD => k_is); (case i1 => k_is); (case i2 => k_is); (case i3 => k_is); (case i4 => k_is); (case i5 => k_is); (case i6 => k_is); (case i7 => k_is); (case q1 => k_is); (case q2 => k_is); (case q3 => k_is); (case q4 => k_is); (case qs => k_is); (case qv => k_is); (case qb => k_is)
      (case b1 => decide); (case b2 => decide); (case b3 => decide); (case b4 => decide)
      (case mx => k_is); (case xl => k_is); (case x1 => exact rfl); (case xs => k_is); (case x2 => exact rfl); (case x3 => exact rfl); (case x4 => exact rfl); (case x5 => exact rfl); (case y1 => k_is); (case y2 => k_is); (case y3 => k_is); (case y4 => k_is); (case z1 => simp); (case z2 => simp)
    have ok : ∀ base : Heap, L2.Fd PySem.Challenge.rw_rowsight_k04_rings_and_who_is_behind.prog w (L2.KOf KX) mg base (L2.CXE PySem.Challenge.rw_rowsight_k04_rings_and_who_is_behind.prog w) "law" ["script"] 6 (R.spLaw (L2.KOf KX)) := fun base => by
      have hCX := L2.strictE PySem.Challenge.rw_rowsight_k04_rings_and_who_is_behind.prog w
      have Gc := R.ok_cell (P := PySem.Challenge.rw_rowsight_k04_rings_and_who_is_behind.prog) (w := w) (base := base) (CX := (L2.CXE PySem.Challenge.rw_rowsight_k04_rings_and_who_is_behind.prog w)) D_law_cell_at B
      have Gd := R.ok_draw (P := PySem.Challenge.rw_rowsight_k04_rings_and_who_is_behind.prog) (w := w) (base := base) (CX := (L2.CXE PySem.Challenge.rw_rowsight_k04_rings_and_who_is_behind.prog w)) D_law_draw hCX Gc
      have Gi := R.ok_isWhole (P := PySem.Challenge.rw_rowsight_k04_rings_and_who_is_behind.prog) (w := w) (base := base) (CX := (L2.CXE PySem.Challenge.rw_rowsight_k04_rings_and_who_is_behind.prog w)) D_is_whole_number B
      have Gk := R.ok_check (P := PySem.Challenge.rw_rowsight_k04_rings_and_who_is_behind.prog) (w := w) (base := base) (CX := (L2.CXE PySem.Challenge.rw_rowsight_k04_rings_and_who_is_behind.prog w)) D_check_row B c_MOST_HEIGHTS hCX Gi
      have Ge := R.ok_each (P := PySem.Challenge.rw_rowsight_k04_rings_and_who_is_behind.prog) (w := w) (base := base) (CX := (L2.CXE PySem.Challenge.rw_rowsight_k04_rings_and_who_is_behind.prog w)) D_has_each_once B hCX Gi
      have Gcw := R.ok_checkw (P := PySem.Challenge.rw_rowsight_k04_rings_and_who_is_behind.prog) (w := w) (base := base) (CX := (L2.CXE PySem.Challenge.rw_rowsight_k04_rings_and_who_is_behind.prog w)) D_check_whole_row B hCX Gk Ge
      have Gal := R.ok_along (P := PySem.Challenge.rw_rowsight_k04_rings_and_who_is_behind.prog) (w := w) (base := base) (CX := (L2.CXE PySem.Challenge.rw_rowsight_k04_rings_and_who_is_behind.prog w)) D_seen_along B
      have Gfr := R.ok_front (P := PySem.Challenge.rw_rowsight_k04_rings_and_who_is_behind.prog) (w := w) (base := base) (CX := (L2.CXE PySem.Challenge.rw_rowsight_k04_rings_and_who_is_behind.prog w)) D_front B hCX Gk Gal
      have Grg := R.ok_rings (P := PySem.Challenge.rw_rowsight_k04_rings_and_who_is_behind.prog) (w := w) (base := base) (CX := (L2.CXE PySem.Challenge.rw_rowsight_k04_rings_and_who_is_behind.prog w)) D_rings_of B hCX Gcw Gfr
      have Gj := R.ok_joined (P := PySem.Challenge.rw_rowsight_k04_rings_and_who_is_behind.prog) (w := w) (base := base) (CX := (L2.CXE PySem.Challenge.rw_rowsight_k04_rings_and_who_is_behind.prog w)) D_joined
      have Gcr := R.ok_checkRg (P := PySem.Challenge.rw_rowsight_k04_rings_and_who_is_behind.prog) (w := w) (base := base) (CX := (L2.CXE PySem.Challenge.rw_rowsight_k04_rings_and_who_is_behind.prog w)) D_check_rings B c_MOST_HEIGHTS hCX Gj Ge
      have Gbg := R.ok_begun (P := PySem.Challenge.rw_rowsight_k04_rings_and_who_is_behind.prog) (w := w) (base := base) (CX := (L2.CXE PySem.Challenge.rw_rowsight_k04_rings_and_who_is_behind.prog w)) D_begun_at_greatest B
      have Gro := R.ok_rowof (P := PySem.Challenge.rw_rowsight_k04_rings_and_who_is_behind.prog) (w := w) (base := base) (CX := (L2.CXE PySem.Challenge.rw_rowsight_k04_rings_and_who_is_behind.prog w)) D_row_of B hCX Gcr Gj Gbg
      have Gbh := R.ok_behind (P := PySem.Challenge.rw_rowsight_k04_rings_and_who_is_behind.prog) (w := w) (base := base) (CX := (L2.CXE PySem.Challenge.rw_rowsight_k04_rings_and_who_is_behind.prog w)) D_behind B hCX Gcr
      have Gor := R.ok_order (P := PySem.Challenge.rw_rowsight_k04_rings_and_who_is_behind.prog) (w := w) (base := base) (CX := (L2.CXE PySem.Challenge.rw_rowsight_k04_rings_and_who_is_behind.prog w)) D_law_order B hCX Gd
      have Gwh := R.ok_whole (P := PySem.Challenge.rw_rowsight_k04_rings_and_who_is_behind.prog) (w := w) (base := base) (CX := (L2.CXE PySem.Challenge.rw_rowsight_k04_rings_and_who_is_behind.prog w)) D_law_whole B
      have Gnu := R.ok_numbers (P := PySem.Challenge.rw_rowsight_k04_rings_and_who_is_behind.prog) (w := w) (base := base) (CX := (L2.CXE PySem.Challenge.rw_rowsight_k04_rings_and_who_is_behind.prog w)) D_law_numbers B hCX Gwh
      have Gdr := R.ok_ldrawn (P := PySem.Challenge.rw_rowsight_k04_rings_and_who_is_behind.prog) (w := w) (base := base) (CX := (L2.CXE PySem.Challenge.rw_rowsight_k04_rings_and_who_is_behind.prog w)) D_law_drawn B hCX Gd Gor
      have Gfu := R.ok_further (P := PySem.Challenge.rw_rowsight_k04_rings_and_who_is_behind.prog) (w := w) (base := base) (CX := (L2.CXE PySem.Challenge.rw_rowsight_k04_rings_and_who_is_behind.prog w)) D_law_further B
      have Glb := R.ok_lbehind (P := PySem.Challenge.rw_rowsight_k04_rings_and_who_is_behind.prog) (w := w) (base := base) (CX := (L2.CXE PySem.Challenge.rw_rowsight_k04_rings_and_who_is_behind.prog w)) D_law_behind B
      have Gao := R.ok_alone (P := PySem.Challenge.rw_rowsight_k04_rings_and_who_is_behind.prog) (w := w) (base := base) (CX := (L2.CXE PySem.Challenge.rw_rowsight_k04_rings_and_who_is_behind.prog w)) D_law_alone B XD
      have Gcb := R.ok_checkRgBad (P := PySem.Challenge.rw_rowsight_k04_rings_and_who_is_behind.prog) (w := w) (base := base) D_check_rings B c_MOST_HEIGHTS XC Gj Ge
      have Grb := R.ok_rowofBad (P := PySem.Challenge.rw_rowsight_k04_rings_and_who_is_behind.prog) (w := w) (base := base) D_row_of Gcb
      have Gbb := R.ok_behindBad (P := PySem.Challenge.rw_rowsight_k04_rings_and_who_is_behind.prog) (w := w) (base := base) D_behind Gcb
      have Grf := R.ok_refused (P := PySem.Challenge.rw_rowsight_k04_rings_and_who_is_behind.prog) (w := w) (base := base) D_law_refused XD Gao Grb Gbb
      exact R.ok_law D_law B hCX Gd Gor Gnu Gdr Gfu Glb Grf Gbh Gro Grg
    refine' L2.law_fd (st := R.s_law) KX G ?a ?l hmg ?b ok
    (case a => k_is); (case l => k_is)
    (case b => exact fun s v => .of_eq rfl)
  case S => exact fun K H a ns hl hO hS => ⟨a, ns, rfl, hS, hl, fun _ => rfl⟩
  case C => exact fun w => L2.strictE PySem.Challenge.rw_rowsight_k04_rings_and_who_is_behind.prog w
#print axioms PySem.Challenge.cw_rowsight_k04_rings_and_who_is_behind_holds
