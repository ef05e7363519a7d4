"""Points 1, 2, 5, 6 and 7, and the interface, rowsight/counting.py."""

import itertools
import math
import sys
import time
import unittest

from rowsight.counting import many_rows, next_row, number_of, row_at
from rowsight.errors import BadRow, NoSuch
from rowsight.rings import rings_of
from rowsight.rows import sight

# Generous, so that a busy machine does not fail it; trying the rows of 12 one by one would take far longer.
SHORT_TIME = 5


def rows_by_sight(many):
    """By the words: all whole rows, in order, under how many are seen of each from both ends."""
    shown = {}
    for order in itertools.permutations(range(1, many + 1)):
        from_front = len([p for p in range(many) if all(order[p] > order[q] for q in range(p))])
        from_back = len([p for p in range(many) if all(order[p] > order[q] for q in range(p + 1, many))])
        shown.setdefault((from_front, from_back), []).append(list(order))
    return shown


BY_SIGHT = {many: rows_by_sight(many) for many in range(1, 8)}


class ManyRows(unittest.TestCase):
    """Point 6."""

    def test_some_numbers(self):
        self.assertEqual(many_rows(3, 1, 2), 1)
        self.assertEqual(many_rows(3, 2, 2), 2)
        self.assertEqual(many_rows(4, 2, 2), 6)
        self.assertEqual(many_rows(4, 1, 3), 3)
        self.assertEqual(many_rows(5, 2, 3), 18)

    def test_every_number_of_up_to_seven_heights(self):
        for many, shown in BY_SIGHT.items():
            for first in range(-2, many + 4):
                for last in range(-2, many + 4):
                    rows = shown.get((first, last), [])
                    self.assertEqual(many_rows(many, first, last), len(rows), (many, first, last))

    def test_one_height(self):
        self.assertEqual(many_rows(1, 1, 1), 1)
        for first, last in ((0, 1), (1, 0), (0, 0), (2, 0), (0, 2), (1, 2), (2, 1), (-1, 3)):
            self.assertEqual(many_rows(1, first, last), 0, (first, last))

    def test_all_rows_of_thirty_heights(self):
        both = itertools.product(range(1, 31), repeat=2)
        self.assertEqual(sum(many_rows(30, first, last) for first, last in both), math.factorial(30))

    def test_thirty_heights_at_the_edges(self):
        self.assertEqual(many_rows(30, 30, 1), 1)
        self.assertEqual(many_rows(30, 1, 30), 1)
        self.assertEqual(many_rows(30, 1, 1), 0)
        self.assertEqual(many_rows(30, 1, 2), math.factorial(28))
        self.assertEqual(many_rows(30, 2, 1), math.factorial(28))
        # Both come to 31, so nobody is hidden: each of the others but the greatest is chosen for an end.
        self.assertEqual(many_rows(30, 15, 16), math.comb(29, 14))
        self.assertEqual(many_rows(30, 16, 15), math.comb(29, 15))
        self.assertEqual(many_rows(30, 2, 29), 29)

    def test_numbers_below_one(self):
        for many in (1, 2, 5, 30):
            for low in (0, -1, -29, -(10 ** 30)):
                for other in (low, 1, 2, many, many + 1, many + 1 - low, 10 ** 30):
                    self.assertEqual(many_rows(many, low, other), 0, (many, low, other))
                    self.assertEqual(many_rows(many, other, low), 0, (many, other, low))

    def test_numbers_that_come_to_too_much(self):
        for many in (1, 2, 5, 30):
            for first in range(1, many + 2):
                self.assertEqual(many_rows(many, first, many + 2 - first), 0)
                self.assertEqual(many_rows(many, first, 10 ** 30), 0)
                self.assertEqual(many_rows(many, 10 ** 30, first), 0)
                if first <= many:
                    self.assertGreater(many_rows(many, first, many + 1 - first), 0)

    def test_both_ends_are_alike(self):
        for many in (2, 9, 30):
            for first in range(1, many + 1):
                for last in range(1, first):
                    self.assertEqual(many_rows(many, first, last), many_rows(many, last, first))

    def test_as_many_rows_as_ways_to_lay_rings(self):
        """The end of point 5."""
        for many, shown in BY_SIGHT.items():
            ways = {}
            for row in itertools.chain.from_iterable(shown.values()):
                rings = len(rings_of(row))
                ways[rings] = ways.get(rings, 0) + 1
            for first in range(1, many + 1):
                rows = sum(many_rows(many, first, last) for last in range(1, many + 1))
                self.assertEqual(rows, ways[first])

    def test_somewhat_beyond_thirty_is_not_refused(self):
        self.assertEqual(many_rows(31, 1, 31), 1)
        self.assertEqual(many_rows(31, 16, 16), math.comb(30, 15))
        self.assertEqual(many_rows(40, 2, 1), math.factorial(38))
        for many in (0, -1):
            for first, last in itertools.product((-1, 0, 1, 2), repeat=2):
                self.assertEqual(many_rows(many, first, last), 0)


class Numbers(unittest.TestCase):
    """Point 7."""

    def check_at(self, many, first, last, number):
        row = row_at(many, first, last, number)
        self.assertEqual(sorted(row), list(range(1, many + 1)))
        self.assertEqual(sight(row), (first, last))
        self.assertEqual(number_of(row), number)
        return row

    def check_no_such(self, many, first, last, number):
        with self.subTest(many=many, first=first, last=last, number=number):
            with self.assertRaises(NoSuch):
                row_at(many, first, last, number)

    def test_the_rows_of_four_that_show_two_at_both_ends(self):
        rows = [[1, 4, 2, 3], [2, 1, 4, 3], [2, 4, 1, 3], [3, 1, 4, 2], [3, 2, 4, 1], [3, 4, 1, 2]]
        self.assertEqual(rows, [row_at(4, 2, 2, number) for number in range(6)])
        self.assertEqual([number_of(row) for row in rows], list(range(6)))
        self.assertEqual([next_row(row) for row in rows], rows[1:] + [None])

    def test_every_row_of_up_to_six_heights(self):
        for many in range(1, 7):
            for (first, last), rows in BY_SIGHT[many].items():
                told = [row_at(many, first, last, number) for number in range(len(rows))]
                self.assertEqual(told, rows)
                self.assertEqual([number_of(row) for row in rows], list(range(len(rows))))
                self.assertEqual([next_row(row) for row in rows], rows[1:] + [None])

    def test_first_and_last_number_and_the_ones_outside(self):
        for many, shown in BY_SIGHT.items():
            for (first, last), rows in shown.items():
                self.assertEqual(row_at(many, first, last, 0), rows[0])
                self.assertEqual(row_at(many, first, last, len(rows) - 1), rows[-1])
                self.assertIsNone(next_row(rows[-1]))
                for number in (-1, -len(rows), len(rows), len(rows) + 1, -(10 ** 40), 10 ** 40):
                    self.check_no_such(many, first, last, number)

    def test_no_row_shows_so_many(self):
        for many in (1, 2, 5, 12):
            for first, last in ((0, 1), (1, 0), (0, 0), (-3, 2), (2, -3), (1, many + 1), (many + 1, 1),
                                (many, 2), (2, many), (0, many + 1), (-5, many + 6), (10 ** 30, 1), (1, 10 ** 30)):
                for number in (-1, 0, 1):
                    self.check_no_such(many, first, last, number)
        for many in (2, 5, 12):
            self.check_no_such(many, 1, 1, 0)

    def test_one_height(self):
        self.assertEqual(row_at(1, 1, 1, 0), [1])
        self.assertEqual(number_of([1]), 0)
        self.assertIsNone(next_row([1]))
        self.check_no_such(1, 1, 1, 1)
        self.check_no_such(1, 1, 1, -1)

    def test_rows_that_stand_alone(self):
        for many in range(2, 13):
            rising = list(range(1, many + 1))
            for row, shown in ((rising, (many, 1)), (rising[::-1], (1, many))):
                self.assertEqual(row_at(many, shown[0], shown[1], 0), row)
                self.assertEqual(number_of(row), 0)
                self.assertIsNone(next_row(row))
                self.check_no_such(many, shown[0], shown[1], 1)

    def test_twelve_heights_in_a_short_time(self):
        begun = time.monotonic()
        for first in range(1, 13):
            for last in range(1, 14 - first):
                rows = many_rows(12, first, last)
                if rows:
                    for number in sorted({0, rows // 3, rows // 2, rows - 1}):
                        self.check_at(12, first, last, number)
                    self.assertIsNone(next_row(row_at(12, first, last, rows - 1)))
                self.check_no_such(12, first, last, -1)
                self.check_no_such(12, first, last, rows)
        self.assertLess(time.monotonic() - begun, SHORT_TIME)

    def test_rows_of_twelve_follow_each_other(self):
        for first, last in ((1, 2), (3, 3), (4, 2), (2, 6), (6, 7), (1, 11)):
            rows = many_rows(12, first, last)
            for begin in sorted({0, rows // 7, rows // 2, max(0, rows - 9)}):
                row = row_at(12, first, last, begin)
                for number in range(begin + 1, min(begin + 9, rows)):
                    following = next_row(row)
                    self.assertGreater(following, row)
                    self.assertEqual(following, self.check_at(12, first, last, number))
                    row = following

    def test_first_and_last_rows_of_twelve(self):
        self.assertEqual(row_at(12, 2, 2, 0), [1, 12, 2, 3, 4, 5, 6, 7, 8, 9, 10, 11])
        self.assertEqual(row_at(12, 1, 2, 0), [12, 1, 2, 3, 4, 5, 6, 7, 8, 9, 10, 11])
        self.assertEqual(row_at(12, 2, 1, 0), [11, 1, 2, 3, 4, 5, 6, 7, 8, 9, 10, 12])
        last = row_at(12, 2, 1, math.factorial(10) - 1)
        self.assertEqual(last, [11, 10, 9, 8, 7, 6, 5, 4, 3, 2, 1, 12])

    def test_somewhat_beyond_twelve_is_not_refused(self):
        for many in (13, 14, 20, 30):
            rows = many_rows(many, 3, 4)
            for number in (0, 1, rows // 2, rows - 2):
                row = self.check_at(many, 3, 4, number)
                self.assertEqual(next_row(row), row_at(many, 3, 4, number + 1))
            self.assertIsNone(next_row(row_at(many, 3, 4, rows - 1)))
            self.check_no_such(many, 3, 4, rows)

    def test_no_height_has_no_row(self):
        for many in (0, -1):
            for first, last in ((0, 0), (1, 0), (0, 1), (1, 1)):
                for number in (-1, 0, 1):
                    self.check_no_such(many, first, last, number)


class RefusedRows(unittest.TestCase):
    """Point 2, at number_of and next_row."""

    def check_refused(self, row):
        for ask in (number_of, next_row):
            with self.subTest(ask=ask.__name__, row=row):
                with self.assertRaises(BadRow):
                    ask(row)

    def test_lists_that_are_no_rows(self):
        self.check_refused([])
        self.check_refused([1, 1])
        self.check_refused([3, 1, 3])
        self.check_refused(list(range(1, 32)))
        self.check_refused(list(range(31, 0, -1)))
        for wrong in (True, False, None, "1", 1.0, 2.5, (1,), [1]):
            self.check_refused([wrong])
            self.check_refused([wrong, 2])
            self.check_refused([3, 2, wrong])

    def test_rows_that_are_not_whole(self):
        self.check_refused([0])
        self.check_refused([2])
        self.check_refused([-1])
        self.check_refused([1, 0])
        self.check_refused([3, 2])
        self.check_refused([1, 2, 4])
        self.check_refused([1, -2, 3])
        self.check_refused(list(range(12)))
        self.check_refused(list(range(2, 14)))
        self.check_refused(list(range(30)))
        self.check_refused([10 ** 40, 1])


class OwnLists(unittest.TestCase):
    """Point 1."""

    ROWS = ([1], [2, 1, 4, 3], [3, 4, 1, 2], [4, 3, 2, 1], [2, 6, 1, 5, 3, 4])

    def test_what_is_handed_in_is_not_changed(self):
        for ask in (number_of, next_row):
            for row in self.ROWS:
                mine = list(row)
                ask(mine)
                self.assertEqual(mine, row)
            for wrong in ([3, 1, 3], [5, 1], []):
                mine = list(wrong)
                with self.assertRaises(BadRow):
                    ask(mine)
                self.assertEqual(mine, wrong)

    def test_what_is_handed_in_is_not_kept(self):
        for ask in (number_of, next_row):
            for row in self.ROWS:
                mine = list(row)
                before = sys.getrefcount(mine)
                told = ask(mine)
                self.assertEqual(sys.getrefcount(mine), before)
                mine.clear()
                self.assertEqual(ask(list(row)), told)

    def test_what_is_told_may_be_changed(self):
        row = [2, 1, 4, 3]
        following = next_row(row)
        again = next_row(row)
        self.assertIsNot(following, again)
        following.clear()
        self.assertEqual(row, [2, 1, 4, 3])
        self.assertEqual(next_row(row), again)
        told = row_at(4, 2, 2, 1)
        self.assertIsNot(told, row_at(4, 2, 2, 1))
        told.clear()
        self.assertEqual(sight(row_at(4, 2, 2, 1)), (2, 2))
        one = row_at(1, 1, 1, 0)
        one.append(2)
        self.assertEqual(row_at(1, 1, 1, 0), [1])


class Kinds(unittest.TestCase):
    """The interface."""

    def test_kinds_that_are_told(self):
        self.assertIs(type(many_rows(4, 2, 2)), int)
        self.assertIs(type(many_rows(4, 0, 2)), int)
        self.assertIs(type(number_of([2, 1, 4, 3])), int)
        for row in (row_at(4, 2, 2, 0), next_row([1, 4, 2, 3])):
            self.assertIs(type(row), list)
            self.assertTrue(all(type(height) is int for height in row))

    def test_names_of_the_arguments(self):
        self.assertEqual(many_rows(many=3, first=2, last=1), 1)
        self.assertEqual(row_at(many=3, first=2, last=1, number=0), [2, 1, 3])
        self.assertEqual(number_of(row=[2, 1, 3]), 0)
        self.assertIsNone(next_row(row=[2, 1, 3]))


if __name__ == "__main__":
    unittest.main()
