"""Points 1, 2 and 3, and the interface, rowsight/rows.py."""

import itertools
import sys
import unittest

from rowsight.errors import BadRow
from rowsight.rows import back, front, sight

ASKED = (front, back, sight)
# More figures than Python writes out as a text.
HUGE = 10 ** 5000


def front_by_the_words(row):
    return [p for p in range(len(row)) if all(row[p] > row[q] for q in range(p))]


def back_by_the_words(row):
    return [p for p in range(len(row)) if all(row[p] > row[q] for q in range(p + 1, len(row)))]


class Seen(unittest.TestCase):
    """Point 3."""

    def check(self, row, from_front, from_back):
        # The row itself is not shown: it may hold numbers that Python won't write out.
        with self.subTest(places=len(row), front=from_front, back=from_back):
            self.assertEqual(front(row), from_front)
            self.assertEqual(back(row), from_back)
            self.assertEqual(sight(row), (len(from_front), len(from_back)))

    def test_ordinary_rows(self):
        self.check([2, 1, 4, 3], [0, 2], [2, 3])
        self.check([3, 1, 2, 5, 4], [0, 3], [3, 4])
        self.check([1, 5, 2, 4, 3], [0, 1], [1, 3, 4])
        self.check([2, 3, 1, 6, 4, 5], [0, 1, 3], [3, 5])
        self.check([170, 182, 165, 190, 177, 160, 168], [0, 1, 3], [3, 4, 6])

    def test_rising_row(self):
        self.check([1, 2, 3, 4], [0, 1, 2, 3], [3])

    def test_falling_row(self):
        self.check([4, 3, 2, 1], [0], [0, 1, 2, 3])

    def test_row_of_one(self):
        for height in (0, 1, -1, 7, HUGE, -HUGE):
            self.check([height], [0], [0])

    def test_row_of_two(self):
        self.check([1, 2], [0, 1], [1])
        self.check([2, 1], [0], [0, 1])

    def test_greatest_at_either_end_and_between(self):
        self.check([9, 1, 5, 3], [0], [0, 2, 3])
        self.check([3, 5, 1, 9], [0, 1, 3], [3])
        self.check([3, 1, 9, 2, 4], [0, 2], [2, 4])

    def test_heights_below_nought(self):
        self.check([-3, -1, -2], [0, 1], [1, 2])
        self.check([-5, -7, 0, -1], [0, 2], [2, 3])
        self.check([-1, -2, -3], [0], [0, 1, 2])
        self.check([0, -1, 1], [0, 2], [2])

    def test_heights_of_many_figures(self):
        self.check([HUGE, HUGE + 1, HUGE - 1], [0, 1], [1, 2])
        self.check([-HUGE, -HUGE - 1, -HUGE + 1], [0, 2], [2])
        # Unlike by one, where a number with a fraction could not tell them apart.
        self.check([2 ** 53 + 1, 2 ** 53, 2 ** 53 + 2], [0, 2], [2])
        self.check([2 ** 64, 2 ** 64 + 1, 2 ** 63], [0, 1], [1, 2])

    def test_every_order_of_up_to_six_heights(self):
        for heights in ([4], [1, 2], [-1, 0, 1], [1, 2, 3, 4], [-9, -4, 0, 3, 50], [1, 2, 3, 4, 5, 6]):
            for order in itertools.permutations(heights):
                row = list(order)
                self.assertEqual(front(row), front_by_the_words(row), row)
                self.assertEqual(back(row), back_by_the_words(row), row)
                self.assertEqual(sight(row), (len(front(row)), len(back(row))), row)

    def test_first_last_and_greatest_are_seen(self):
        for order in itertools.permutations([-2, 0, 3, 8, 20]):
            row = list(order)
            greatest = row.index(20)
            self.assertEqual(front(row)[0], 0, row)
            self.assertEqual(back(row)[-1], 4, row)
            self.assertEqual(front(row)[-1], greatest, row)
            self.assertEqual(back(row)[0], greatest, row)


class Rows(unittest.TestCase):
    """Point 2."""

    def check_refused(self, row):
        for ask in ASKED:
            with self.subTest(ask=ask.__name__):
                with self.assertRaises(BadRow):
                    ask(row)

    def test_one_height_is_a_row(self):
        self.assertEqual(front([5]), [0])
        self.assertEqual(back([5]), [0])
        self.assertEqual(sight([5]), (1, 1))

    def test_thirty_heights_are_a_row(self):
        rising = list(range(1, 31))
        self.assertEqual(front(rising), list(range(30)))
        self.assertEqual(back(rising), [29])
        self.assertEqual(sight(rising), (30, 1))
        falling = list(range(14, -16, -1))
        self.assertEqual(front(falling), [0])
        self.assertEqual(back(falling), list(range(30)))
        self.assertEqual(sight(falling), (1, 30))

    def test_a_row_need_not_be_whole(self):
        self.assertEqual(sight([10, 40, 20]), (2, 2))
        self.assertEqual(sight([0, -40]), (1, 2))

    def test_no_height_is_refused(self):
        self.check_refused([])

    def test_more_than_thirty_heights_are_refused(self):
        self.check_refused(list(range(1, 32)))
        self.check_refused(list(range(31, 0, -1)))
        self.check_refused(list(range(100)))

    def test_one_height_twice_is_refused(self):
        self.check_refused([1, 1])
        self.check_refused([1, 2, 1])
        self.check_refused([5, 9, 2, 2])
        self.check_refused([3, 9, 3, 4])
        self.check_refused([0, -4, 0])
        self.check_refused([-4, 1, -4])
        self.check_refused(list(range(1, 30)) + [1])
        self.check_refused(list(range(1, 30)) + [29])

    def test_one_height_of_many_figures_twice_is_refused(self):
        self.check_refused([HUGE, 1, 10 ** 5000])
        self.check_refused([-HUGE, -(10 ** 5000)])

    def test_heights_that_are_no_whole_numbers_are_refused(self):
        for wrong in (True, False, None, "3", 2.5, 3.0, [3], (3,)):
            self.check_refused([wrong])
            self.check_refused([7, wrong, 9])
            self.check_refused([7, 9, wrong])
        self.check_refused([1, True])


class OwnLists(unittest.TestCase):
    """Point 1."""

    def test_what_is_handed_in_is_not_changed(self):
        for heights in ([4], [2, 1, 4, 3], [4, 3, 2, 1], list(range(30))):
            for ask in ASKED:
                row = list(heights)
                ask(row)
                self.assertEqual(row, heights)

    def test_what_is_refused_is_not_changed(self):
        for heights in ([], [2, 1, 2], list(range(31, 0, -1))):
            for ask in ASKED:
                row = list(heights)
                with self.assertRaises(BadRow):
                    ask(row)
                self.assertEqual(row, heights)

    def test_what_is_handed_in_may_be_changed_later(self):
        row = [1, 2, 3]
        seen = front(row)
        behind = back(row)
        many = sight(row)
        row.reverse()
        row.append(-1)
        self.assertEqual((seen, behind, many), ([0, 1, 2], [2], (3, 1)))
        self.assertEqual((front(row), back(row), sight(row)), ([0], [0, 1, 2, 3], (1, 4)))

    def test_what_is_handed_in_is_not_kept(self):
        row = [2, 1, 4, 3]
        for ask in ASKED:
            before = sys.getrefcount(row)
            told = ask(row)
            self.assertEqual(sys.getrefcount(row), before)
            self.assertIsNotNone(told)

    def test_what_is_told_may_be_changed(self):
        row = [2, 1, 4, 3]
        for ask, answer in ((front, [0, 2]), (back, [2, 3])):
            told = ask(row)
            told.append(77)
            told[0] = -5
            self.assertEqual(ask(row), answer)
            self.assertEqual(row, [2, 1, 4, 3])
            self.assertEqual(sight(row), (2, 2))

    def test_no_two_lists_told_are_one(self):
        # These rows are like what is told of them, so a list handed back as it came would not show otherwise.
        for row in ([0], [0, 1, 2]):
            told = [front(row), front(row), back(row), back(row), front(list(row)), row]
            for one, other in itertools.combinations(told, 2):
                self.assertIsNot(one, other)


class Kinds(unittest.TestCase):
    """The interface."""

    def test_front_and_back_tell_rising_lists_of_places(self):
        for order in itertools.permutations([1, 2, 3, 4, 5]):
            for ask in (front, back):
                told = ask(list(order))
                self.assertIs(type(told), list)
                self.assertEqual(told, sorted(set(told)))
                self.assertTrue(all(type(place) is int and 0 <= place < 5 for place in told))

    def test_sight_tells_a_tuple_of_two_numbers(self):
        for row in ([7], [2, 1, 4, 3], list(range(30))):
            told = sight(row)
            self.assertIs(type(told), tuple)
            self.assertEqual([type(number) for number in told], [int, int])

    def test_sight_tells_the_front_first(self):
        self.assertEqual(sight([1, 2, 3]), (3, 1))
        self.assertEqual(sight([3, 2, 1]), (1, 3))

    def test_the_argument_is_called_row(self):
        self.assertEqual(front(row=[2, 3, 1]), [0, 1])
        self.assertEqual(back(row=[2, 3, 1]), [1, 2])
        self.assertEqual(sight(row=[2, 3, 1]), (2, 2))


if __name__ == "__main__":
    unittest.main()
