"""Points 1, 2, 4 and 5, and the interface, rowsight/rings.py."""

import copy
import itertools
import sys
import unittest

from rowsight.errors import BadRings, BadRow
from rowsight.rings import behind, rings_of, row_of
from rowsight.rows import front

NO_NUMBERS = (True, False, None, "1", 1.0, 2.5, (1,), [1])


def lists_in(value):
    deeper = [lists_in(member) for member in value if isinstance(member, list)]
    return [value] + list(itertools.chain.from_iterable(deeper))


def whole_rows(many):
    return [list(order) for order in itertools.permutations(range(1, many + 1))]


def cut_by_the_words(row):
    rings = []
    for place, height in enumerate(row):
        if all(height > ahead for ahead in row[:place]):
            rings.append([])
        rings[-1].append(height)
    return rings


def begun_otherwise(rings):
    """The same rings in every order, each begun at every one of its heights."""
    turned = [[ring[place:] + ring[:place] for place in range(len(ring))] for ring in rings]
    for begun in itertools.product(*turned):
        for order in itertools.permutations(begun):
            yield [list(ring) for ring in order]


class RingsOfARow(unittest.TestCase):
    """Point 4."""

    def test_ordinary_rows(self):
        self.assertEqual(rings_of([2, 1, 4, 3]), [[2, 1], [4, 3]])
        self.assertEqual(rings_of([3, 1, 2, 5, 4]), [[3, 1, 2], [5, 4]])
        self.assertEqual(rings_of([1, 5, 2, 4, 3]), [[1], [5, 2, 4, 3]])
        self.assertEqual(rings_of([2, 3, 1, 6, 4, 5]), [[2], [3, 1], [6, 4, 5]])

    def test_row_of_one(self):
        self.assertEqual(rings_of([1]), [[1]])

    def test_one_ring(self):
        self.assertEqual(rings_of([4, 1, 3, 2]), [[4, 1, 3, 2]])
        falling = list(range(30, 0, -1))
        self.assertEqual(rings_of(falling), [falling])

    def test_rings_of_one_height_each(self):
        self.assertEqual(rings_of([1, 2, 3]), [[1], [2], [3]])
        self.assertEqual(rings_of(list(range(1, 31))), [[height] for height in range(1, 31)])

    def test_every_whole_row_of_up_to_six(self):
        for many in range(1, 7):
            for row in whole_rows(many):
                rings = rings_of(row)
                self.assertEqual(rings, cut_by_the_words(row))
                self.assertEqual(len(rings), len(front(row)))


class RowOfRings(unittest.TestCase):
    """Point 5."""

    def test_ordinary_rings(self):
        self.assertEqual(row_of([[2, 1], [4, 3]]), [2, 1, 4, 3])
        self.assertEqual(row_of([[3, 4], [1, 2]]), [2, 1, 4, 3])
        self.assertEqual(row_of([[1, 5, 3], [2, 4]]), [4, 2, 5, 3, 1])
        self.assertEqual(row_of([[4, 5, 6], [1], [3, 2]]), [1, 3, 2, 6, 4, 5])

    def test_one_ring(self):
        self.assertEqual(row_of([[1]]), [1])
        self.assertEqual(row_of([[1, 2, 3, 4]]), [4, 1, 2, 3])
        self.assertEqual(row_of([list(range(1, 31))]), [30] + list(range(1, 30)))

    def test_rings_of_one_height_each(self):
        self.assertEqual(row_of([[3], [1], [2]]), [1, 2, 3])
        self.assertEqual(row_of([[height] for height in range(30, 0, -1)]), list(range(1, 31)))

    def test_greatest_ones_are_ordered_as_numbers(self):
        self.assertEqual(row_of([[10, 1], [9], [2, 3, 4, 5, 6, 7, 8]]), [8, 2, 3, 4, 5, 6, 7, 9, 10, 1])

    def test_every_whole_row_comes_back(self):
        for many in range(1, 7):
            for row in whole_rows(many):
                self.assertEqual(row_of(rings_of(row)), row)

    def test_where_rings_begin_and_their_order_do_not_matter(self):
        for many in range(1, 6):
            for row in whole_rows(many):
                rings = rings_of(row)
                for other in begun_otherwise(rings):
                    self.assertEqual(row_of(other), row, other)
                    self.assertEqual(rings_of(row_of(other)), rings, other)

    def test_unlike_rings_come_of_unlike_rows(self):
        for many in range(1, 7):
            follow = {tuple(behind(rings_of(row))) for row in whole_rows(many)}
            self.assertEqual(len(follow), len(whole_rows(many)))


class BehindInRings(unittest.TestCase):
    """Point 4: who has whom behind."""

    def test_ordinary_rings(self):
        self.assertEqual(behind([[2, 1], [4, 3]]), [2, 1, 4, 3])
        self.assertEqual(behind([[3, 1, 2]]), [2, 3, 1])
        self.assertEqual(behind([[2, 4], [1, 5, 3]]), [5, 4, 1, 2, 3])

    def test_one_ring(self):
        self.assertEqual(behind([[1]]), [1])
        self.assertEqual(behind([list(range(1, 31))]), list(range(2, 31)) + [1])

    def test_rings_of_one_height_each(self):
        self.assertEqual(behind([[2], [3], [1]]), [1, 2, 3])
        self.assertEqual(behind([[height] for height in range(30, 0, -1)]), list(range(1, 31)))

    def test_each_one_has_the_next_one_behind(self):
        for many in range(1, 6):
            for row in whole_rows(many):
                for rings in begun_otherwise(rings_of(row)):
                    told = behind(rings)
                    self.assertEqual(len(told), many)
                    for ring in rings:
                        for place, height in enumerate(ring):
                            self.assertEqual(told[height - 1], ring[(place + 1) % len(ring)])


class RefusedRows(unittest.TestCase):
    """Point 2, at rings_of."""

    def check_refused(self, row):
        with self.subTest(row=row):
            with self.assertRaises(BadRow):
                rings_of(row)

    def test_lists_that_are_no_rows(self):
        self.check_refused([])
        self.check_refused([1, 1])
        self.check_refused([2, 1, 2])
        self.check_refused(list(range(1, 32)))
        self.check_refused(list(range(31, 0, -1)))
        for wrong in NO_NUMBERS:
            self.check_refused([wrong])
            self.check_refused([2, wrong])

    def test_rows_that_are_not_whole(self):
        self.check_refused([0])
        self.check_refused([2])
        self.check_refused([-1])
        self.check_refused([0, 1])
        self.check_refused([2, 3])
        self.check_refused([1, 3])
        self.check_refused([4, 1, 2])
        self.check_refused([1, 2, -3])
        self.check_refused(list(range(30)))
        self.check_refused(list(range(2, 32)))
        self.check_refused([1, 10 ** 40])


class RefusedRings(unittest.TestCase):
    """Point 5."""

    def check_refused(self, rings):
        for ask in (row_of, behind):
            with self.subTest(ask=ask.__name__, rings=rings):
                with self.assertRaises(BadRings):
                    ask(rings)

    def test_no_ring(self):
        self.check_refused([])

    def test_empty_ring(self):
        self.check_refused([[]])
        self.check_refused([[], []])
        self.check_refused([[], [1]])
        self.check_refused([[1], []])
        self.check_refused([[2, 1], [], [3]])

    def test_one_height_twice(self):
        self.check_refused([[1, 1]])
        self.check_refused([[1], [1]])
        self.check_refused([[1, 2], [2]])
        self.check_refused([[3, 2], [1, 3]])

    def test_missing_height(self):
        self.check_refused([[2]])
        self.check_refused([[1], [3]])
        self.check_refused([[4, 2], [1]])
        self.check_refused([list(range(1, 30)), [31]])

    def test_height_below_one(self):
        self.check_refused([[0]])
        self.check_refused([[0, 1]])
        self.check_refused([[1], [-2]])
        self.check_refused([[2, 1], [-1]])

    def test_more_than_thirty_heights(self):
        self.check_refused([list(range(1, 32))])
        self.check_refused([[height] for height in range(1, 32)])
        self.check_refused([list(range(1, 31)), [31]])

    def test_heights_that_are_no_whole_numbers(self):
        for wrong in NO_NUMBERS:
            self.check_refused([[wrong]])
            self.check_refused([[wrong, 2]])
            self.check_refused([[2], [wrong]])

    def test_rings_that_are_no_lists(self):
        self.check_refused([1, 2])
        self.check_refused([[1], 2])
        self.check_refused([[1], None])
        self.check_refused(["1"])
        self.check_refused([(1, 2)])


class OwnLists(unittest.TestCase):
    """Point 1."""

    ASKED = (
        (rings_of, [2, 1, 4, 3]), (rings_of, [4, 3, 2, 1]), (rings_of, [1, 2, 3]), (rings_of, [1]),
        (row_of, [[4, 3], [2, 1]]), (row_of, [[1, 2, 3]]), (row_of, [[3], [1], [2]]), (row_of, [[1]]),
        (behind, [[4, 3], [2, 1]]), (behind, [[1, 2, 3]]), (behind, [[3], [1], [2]]), (behind, [[1]]),
    )

    def test_what_is_handed_in_is_not_changed(self):
        for ask, handed in self.ASKED:
            mine = copy.deepcopy(handed)
            ask(mine)
            self.assertEqual(mine, handed)

    def test_what_is_refused_is_not_changed(self):
        for ask in (row_of, behind):
            for handed in ([[3, 1], [1]], [[3], []], [[5], [2, 1]]):
                mine = copy.deepcopy(handed)
                with self.assertRaises(BadRings):
                    ask(mine)
                self.assertEqual(mine, handed)

    def test_what_is_handed_in_may_be_changed_later(self):
        for ask, handed in self.ASKED:
            mine = copy.deepcopy(handed)
            told = ask(mine)
            as_told = copy.deepcopy(told)
            for one in lists_in(mine):
                one.clear()
            self.assertEqual(told, as_told)
            self.assertEqual(ask(copy.deepcopy(handed)), as_told)

    def test_what_is_handed_in_is_not_kept(self):
        for ask, handed in self.ASKED:
            mine = copy.deepcopy(handed)
            for one in lists_in(mine):
                before = sys.getrefcount(one)
                told = ask(mine)
                self.assertEqual(sys.getrefcount(one), before)
                self.assertIsNotNone(told)

    def test_what_is_told_may_be_changed(self):
        for ask, handed in self.ASKED:
            mine = copy.deepcopy(handed)
            told = ask(mine)
            as_told = copy.deepcopy(told)
            for one in lists_in(told):
                one.append(77)
            self.assertEqual(mine, handed)
            self.assertEqual(ask(mine), as_told)

    def test_no_two_lists_are_one(self):
        for ask, handed in self.ASKED:
            mine = copy.deepcopy(handed)
            lists = lists_in(mine) + lists_in(ask(mine)) + lists_in(ask(mine))
            self.assertEqual(len({id(one) for one in lists}), len(lists))


class Kinds(unittest.TestCase):
    """The interface."""

    def test_lists_of_whole_numbers_are_told(self):
        for row in whole_rows(4):
            rings = rings_of(row)
            self.assertIs(type(rings), list)
            for told in rings + [row_of(rings), behind(rings)]:
                self.assertIs(type(told), list)
                self.assertTrue(all(type(height) is int for height in told))

    def test_names_of_the_arguments(self):
        self.assertEqual(rings_of(row=[2, 1]), [[2, 1]])
        self.assertEqual(row_of(rings=[[1, 2]]), [2, 1])
        self.assertEqual(behind(rings=[[1, 2]]), [2, 1])


if __name__ == "__main__":
    unittest.main()
