"""Points 1, 8 and 9, and the interface, rowsight/squares.py."""

import copy
import itertools
import sys
import unittest

from rowsight.errors import BadSquare
from rowsight.squares import first_square, keeps, squares

FOUR = [[1, 2, 3, 4], [2, 1, 4, 3], [3, 4, 1, 2], [4, 3, 2, 1]]
THREE = [[1, 2, 3], [2, 3, 1], [3, 1, 2]]


def no_wish(many):
    return tuple([0] * many for side in range(4))


def one_wish(many, side, place, number):
    wishes = no_wish(many)
    wishes[side][place] = number
    return wishes


def count_seen(line):
    return len([p for p in range(len(line)) if all(line[p] > line[q] for q in range(p))])


def seen_of(square):
    """By the words: what is seen of a square, as wishes that wish for all of it."""
    columns = [list(column) for column in zip(*square)]
    return (
        [count_seen(row) for row in square], [count_seen(row[::-1]) for row in square],
        [count_seen(column) for column in columns], [count_seen(column[::-1]) for column in columns],
    )


def all_squares(many):
    rows = [list(order) for order in itertools.permutations(range(1, many + 1))]
    return [
        [list(row) for row in chosen] for chosen in itertools.product(rows, repeat=many)
        if all(len(set(column)) == many for column in zip(*chosen))
    ]


ALL = {many: all_squares(many) for many in range(1, 5)}
ALL_SEEN = {many: [seen_of(square) for square in ALL[many]] for many in ALL}


def kept_by_the_words(wishes):
    wished = list(itertools.chain.from_iterable(wishes))
    kept = []
    for square, sides in zip(ALL[len(wishes[0])], ALL_SEEN[len(wishes[0])]):
        if all(wish in (0, seen) for wish, seen in zip(wished, itertools.chain.from_iterable(sides))):
            kept.append(square)
    return kept


def lists_in(value):
    deeper = [lists_in(member) for member in value if isinstance(member, (list, tuple))]
    own = [value] if isinstance(value, list) else []
    return own + list(itertools.chain.from_iterable(deeper))


class Keeps(unittest.TestCase):
    """Point 9."""

    def test_no_wish_is_kept_by_every_square(self):
        for many in ALL:
            for square in ALL[many]:
                self.assertIs(keeps(square, no_wish(many)), True)

    def test_an_ordinary_square(self):
        seen = ([3, 2, 1], [1, 2, 2], [3, 2, 1], [1, 2, 2])
        self.assertIs(keeps(THREE, seen), True)
        self.assertIs(keeps(THREE, ([3, 0, 0], [0, 2, 0], [0, 2, 1], [0, 0, 0])), True)
        self.assertIs(keeps(THREE, ([3, 0, 0], [0, 2, 0], [0, 2, 1], [2, 0, 0])), False)

    def test_each_side_has_its_own_wishes(self):
        # Unlike what is seen from all four sides, so that no side can be taken for another.
        square = [[1, 2, 3, 4], [3, 4, 1, 2], [4, 3, 2, 1], [2, 1, 4, 3]]
        wishes = ([4, 2, 1, 2], [1, 2, 4, 2], [3, 2, 2, 1], [2, 3, 1, 2])
        self.assertIs(keeps(square, wishes), True)
        for order in itertools.permutations(wishes):
            self.assertIs(keeps(square, order), order == wishes)

    def test_one_wish_at_every_place(self):
        for many in (1, 2, 3):
            for square in ALL[many]:
                self.check_one_wish(square)
        for square in ALL[4][::37]:
            self.check_one_wish(square)

    def check_one_wish(self, square):
        many = len(square)
        seen = seen_of(square)
        self.assertIs(keeps(square, seen), True)
        for side, place, number in itertools.product(range(4), range(many), range(1, many + 1)):
            wishes = one_wish(many, side, place, number)
            self.assertIs(keeps(square, wishes), seen[side][place] == number, (square, wishes))

    def test_one_row_and_column(self):
        self.assertIs(keeps([[1]], ([1], [1], [1], [1])), True)
        self.assertIs(keeps([[1]], ([0], [0], [0], [0])), True)
        self.assertIs(keeps([[1]], ([1], [0], [0], [1])), True)


class NoSquare(unittest.TestCase):
    """Points 8 and 9: what is no square keeps nothing, and is no refusal."""

    def check_not_kept(self, square, many):
        with self.subTest(square=square, many=many):
            self.assertIs(keeps(square, no_wish(many)), False)

    def test_another_number_of_rows(self):
        for square_of, wishes_of in itertools.permutations(range(1, 5), 2):
            self.check_not_kept(ALL[square_of][0], wishes_of)
        five = [[(row + place) % 5 + 1 for place in range(5)] for row in range(5)]
        for many in range(1, 5):
            self.check_not_kept(five, many)
            self.check_not_kept([], many)

    def test_rows_of_another_length(self):
        self.check_not_kept([[]], 1)
        self.check_not_kept([[1, 2]], 1)
        self.check_not_kept([[1], [2]], 2)
        self.check_not_kept([[1, 2], [2]], 2)
        self.check_not_kept([[1, 2], []], 2)
        self.check_not_kept([[1, 2, 3], [2, 1, 3]], 2)
        self.check_not_kept([[1, 2, 3], [2, 3, 1]], 3)
        self.check_not_kept([[1, 2, 3], [2, 3, 1], [3, 1]], 3)
        self.check_not_kept(THREE + [[1, 2, 3]], 3)

    def test_one_height_twice_in_a_row(self):
        self.check_not_kept([[1, 1], [2, 2]], 2)
        self.check_not_kept([[1, 2, 2], [2, 3, 1], [3, 1, 3]], 3)
        self.check_not_kept([[1, 1, 1], [2, 2, 2], [3, 3, 3]], 3)

    def test_one_height_twice_in_a_column(self):
        self.check_not_kept([[1, 2], [1, 2]], 2)
        self.check_not_kept([[1, 2, 3], [2, 3, 1], [3, 2, 1]], 3)
        self.check_not_kept([[1, 2, 3], [1, 3, 2], [3, 1, 2]], 3)
        self.check_not_kept(FOUR[:3] + [[4, 3, 1, 2]], 4)

    def test_other_heights(self):
        self.check_not_kept([[0]], 1)
        self.check_not_kept([[2]], 1)
        self.check_not_kept([[-1]], 1)
        self.check_not_kept([[10 ** 40]], 1)
        self.check_not_kept([[0, 1], [1, 0]], 2)
        self.check_not_kept([[1, 3], [3, 1]], 2)
        self.check_not_kept([[2, 3, 4], [3, 4, 2], [4, 2, 3]], 3)

    def test_members_that_are_no_heights_or_rows(self):
        self.check_not_kept([[True]], 1)
        self.check_not_kept([["1"]], 1)
        self.check_not_kept([[None, 2], [2, 1]], 2)
        self.check_not_kept([1], 1)
        self.check_not_kept([(1,)], 1)

    def test_what_would_be_seen_does_not_help(self):
        self.assertIs(keeps([[1, 2], [1, 2]], ([2, 2], [1, 1], [1, 1], [1, 1])), False)
        self.assertIs(keeps([[5]], ([1], [1], [1], [1])), False)

    def test_every_list_of_rows_of_two_and_three(self):
        for many in (2, 3):
            rows = [list(order) for order in itertools.permutations(range(1, many + 1))]
            for chosen in itertools.product(rows, repeat=many):
                square = [list(row) for row in chosen]
                self.assertIs(keeps(square, no_wish(many)), square in ALL[many])


class Squares(unittest.TestCase):
    """Point 9."""

    def check(self, wishes):
        kept = kept_by_the_words(wishes)
        self.assertEqual(squares(wishes), kept, wishes)
        self.assertEqual(first_square(wishes), kept[0] if kept else None, wishes)
        return len(kept)

    def test_no_wish(self):
        self.assertEqual([self.check(no_wish(many)) for many in range(1, 5)], [1, 2, 12, 576])
        self.assertEqual(squares(no_wish(1)), [[[1]]])
        self.assertEqual(squares(no_wish(2)), [[[1, 2], [2, 1]], [[2, 1], [1, 2]]])
        self.assertEqual(first_square(no_wish(4)), FOUR)

    def test_order(self):
        for many in range(1, 5):
            told = squares(no_wish(many))
            self.assertTrue(all(one < other for one, other in zip(told, told[1:])))
        self.assertEqual(squares(no_wish(4))[-1], [[4, 3, 2, 1], [3, 4, 1, 2], [2, 1, 4, 3], [1, 2, 3, 4]])

    def test_all_wishes_for_one_row(self):
        for numbers in itertools.product((0, 1), repeat=4):
            self.assertEqual(self.check([[number] for number in numbers]), 1)

    def test_all_wishes_for_two_rows(self):
        for numbers in itertools.product((0, 1, 2), repeat=8):
            self.check([list(numbers[side:side + 2]) for side in (0, 2, 4, 6)])

    def test_one_wish_at_every_place(self):
        for many in (3, 4):
            for side, place, number in itertools.product(range(4), range(many), range(1, many + 1)):
                self.check(one_wish(many, side, place, number))

    def test_wishes_for_all_that_is_seen(self):
        for square in ALL[3] + ALL[4][::23]:
            wishes = seen_of(square)
            self.assertGreaterEqual(self.check(wishes), 1)
            self.assertIn(square, squares(wishes))

    def test_an_ordinary_riddle(self):
        wishes = ([0, 0, 0, 2], [0, 0, 0, 0], [0, 0, 2, 0], [3, 0, 0, 3])
        one = [[3, 1, 2, 4], [4, 2, 1, 3], [2, 3, 4, 1], [1, 4, 3, 2]]
        other = [[4, 1, 2, 3], [3, 2, 1, 4], [1, 3, 4, 2], [2, 4, 3, 1]]
        self.assertEqual(squares(wishes), [one, other])
        self.assertEqual(first_square(wishes), one)
        wishes[1][1] = 1
        self.assertEqual(squares(wishes), [other])
        self.assertEqual(first_square(wishes), other)

    def test_wishes_that_no_square_keeps(self):
        for wishes in (
            ([2, 2], [0, 0], [0, 0], [0, 0]),
            ([1, 0], [1, 0], [0, 0], [0, 0]),
            ([3, 3, 0], [0, 0, 0], [0, 0, 0], [0, 0, 0]),
            ([4, 0, 0, 0], [2, 0, 0, 0], [0, 0, 0, 0], [0, 0, 0, 0]),
            ([1, 1, 0, 0], [0, 0, 0, 0], [0, 0, 0, 0], [0, 0, 0, 0]),
            ([0, 0, 0, 0], [0, 0, 0, 0], [4, 4, 0, 0], [0, 0, 0, 0]),
            ([0, 0, 0, 0], [0, 0, 0, 0], [0, 0, 0, 1], [0, 0, 0, 1]),
        ):
            self.assertEqual(squares(wishes), [])
            self.assertIsNone(first_square(wishes))


class Wishes(unittest.TestCase):
    """Point 8."""

    def check_refused(self, wishes):
        for square in ([[1]], THREE, FOUR, [], [[7, 7]]):
            with self.subTest(ask="keeps", square=square, wishes=wishes):
                self.assertRaises(BadSquare, keeps, square, wishes)
        for ask in (squares, first_square):
            with self.subTest(ask=ask.__name__, wishes=wishes):
                self.assertRaises(BadSquare, ask, wishes)

    def test_a_tuple_or_a_list(self):
        for many in range(1, 5):
            for made in (tuple, list):
                wishes = made(no_wish(many))
                self.assertEqual(squares(wishes), ALL[many])
                self.assertEqual(first_square(wishes), ALL[many][0])
                self.assertIs(keeps(ALL[many][-1], wishes), True)

    def test_not_four_lists(self):
        for many in (1, 2, 4):
            for made in (tuple, list):
                for sides in (0, 1, 2, 3, 5, 8):
                    self.check_refused(made([0] * many for side in range(sides)))

    def test_lists_of_unlike_lengths(self):
        for many in (1, 2, 3, 4):
            for side in range(4):
                wishes = no_wish(many)
                wishes[side].append(0)
                self.check_refused(wishes)
                wishes = no_wish(many)
                wishes[side].pop()
                self.check_refused(wishes)

    def test_no_row_and_more_than_four_rows(self):
        for many in (0, 5, 6):
            self.check_refused(no_wish(many))
            self.check_refused(list(no_wish(many)))

    def test_numbers_out_of_reach(self):
        for many in (1, 2, 3, 4):
            for side, place in itertools.product(range(4), range(many)):
                for number in (-1, many + 1, -(10 ** 40), 10 ** 40):
                    self.check_refused(one_wish(many, side, place, number))

    def test_members_that_are_no_numbers_or_lists(self):
        for side in range(4):
            for wrong in (True, False, None, "0", 0.0, 1.0, [0]):
                self.check_refused(one_wish(2, side, 1, wrong))
            for wrong in (None, 0, "00", (0, 0), {0: 0, 1: 0}):
                wishes = list(no_wish(2))
                wishes[side] = wrong
                self.check_refused(wishes)

    def test_wishes_that_are_no_list_and_no_tuple(self):
        for wrong in (None, 0, "0000", {0: [0], 1: [0], 2: [0], 3: [0]}):
            self.check_refused(wrong)


class OwnLists(unittest.TestCase):
    """Point 1."""

    WISHES = (no_wish(1), list(no_wish(2)), ([0, 2, 0], [0, 0, 0], [0, 0, 1], [0, 0, 0]), list(no_wish(4)))

    def ask_all(self, wishes):
        many = len(wishes[0])
        return [squares(wishes), first_square(wishes), keeps(ALL[many][0], wishes)]

    def test_what_is_handed_in_is_not_changed(self):
        for wishes in self.WISHES:
            mine = copy.deepcopy(wishes)
            square = copy.deepcopy(ALL[len(wishes[0])][0])
            self.ask_all(mine)
            keeps(square, mine)
            self.assertEqual(mine, wishes)
            self.assertEqual(square, ALL[len(wishes[0])][0])

    def test_what_is_refused_or_no_square_is_not_changed(self):
        wishes = [[0, 3], [0, 0], [0, 0], [0, 0]]
        square = [[2, 1], [2, 1]]
        self.assertRaises(BadSquare, keeps, square, wishes)
        self.assertRaises(BadSquare, squares, wishes)
        self.assertEqual(wishes, [[0, 3], [0, 0], [0, 0], [0, 0]])
        self.assertIs(keeps(square, no_wish(2)), False)
        self.assertEqual(square, [[2, 1], [2, 1]])

    def test_what_is_handed_in_may_be_changed_later(self):
        for wishes in self.WISHES:
            mine = copy.deepcopy(wishes)
            told = self.ask_all(mine)
            as_told = copy.deepcopy(told)
            for one in lists_in(mine):
                one.clear()
            self.assertEqual(told, as_told)
            self.assertEqual(self.ask_all(wishes), as_told)

    def test_what_is_handed_in_is_not_kept(self):
        for wishes in self.WISHES:
            mine = copy.deepcopy(wishes)
            square = copy.deepcopy(ALL[len(wishes[0])][0])
            for one in lists_in(mine) + lists_in(square):
                before = sys.getrefcount(one)
                told = (squares(mine), first_square(mine), keeps(square, mine))
                self.assertEqual(sys.getrefcount(one), before)
                self.assertIsNotNone(told)

    def test_what_is_told_may_be_changed(self):
        for wishes in self.WISHES:
            as_told = copy.deepcopy(self.ask_all(wishes))
            for one in lists_in(self.ask_all(wishes)):
                one.clear()
            self.assertEqual(self.ask_all(wishes), as_told)

    def test_no_two_lists_are_one(self):
        for wishes in self.WISHES:
            told = [self.ask_all(wishes), self.ask_all(wishes)]
            lists = lists_in(told) + lists_in(wishes)
            self.assertEqual(len({id(one) for one in lists}), len(lists))

    def test_one_list_handed_in_for_several(self):
        side = [0, 0]
        self.assertEqual(squares((side, side, side, side)), ALL[2])
        row = [1, 2]
        self.assertIs(keeps([row, row], [side] * 4), False)


class Kinds(unittest.TestCase):
    """The interface."""

    def test_kinds_that_are_told(self):
        told = squares(no_wish(3))
        for one in lists_in(told) + lists_in(first_square(no_wish(3))):
            self.assertIs(type(one), list)
        self.assertTrue(all(type(height) is int for square in told for row in square for height in row))

    def test_names_of_the_arguments(self):
        self.assertIs(keeps(square=[[1]], wishes=no_wish(1)), True)
        self.assertEqual(squares(wishes=no_wish(1)), [[[1]]])
        self.assertEqual(first_square(wishes=no_wish(1)), [[1]])


if __name__ == "__main__":
    unittest.main()
