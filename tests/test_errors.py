"""The interface, rowsight/errors.py."""

import unittest

from rowsight.errors import BadRings, BadRow, BadSquare, NoSuch, SightError

REFUSALS = (BadRow, BadRings, NoSuch, BadSquare)


class ErrorsTest(unittest.TestCase):
    def test_sight_error_is_a_value_error(self):
        self.assertTrue(issubclass(SightError, ValueError))
        self.assertEqual(SightError.__bases__, (ValueError,))

    def test_each_refusal_stands_straight_under_sight_error(self):
        for refusal in REFUSALS:
            with self.subTest(refusal=refusal.__name__):
                self.assertEqual(refusal.__bases__, (SightError,))

    def test_no_refusal_stands_under_another(self):
        for one in REFUSALS:
            for other in REFUSALS:
                with self.subTest(one=one.__name__, other=other.__name__):
                    self.assertEqual(issubclass(one, other), one.__name__ == other.__name__)

    def test_each_refusal_bears_its_own_name(self):
        names = [refusal.__name__ for refusal in REFUSALS]
        self.assertEqual(names, ["BadRow", "BadRings", "NoSuch", "BadSquare"])
        self.assertEqual(SightError.__name__, "SightError")

    def test_each_refusal_is_taken_as_sight_error_and_as_value_error(self):
        for refusal in REFUSALS:
            for taken in (refusal, SightError, ValueError):
                with self.subTest(refusal=refusal.__name__, taken=taken.__name__):
                    with self.assertRaises(taken):
                        raise refusal("words")


if __name__ == "__main__":
    unittest.main()
