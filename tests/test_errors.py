import unittest

from flagfloor import errors
from flagfloor.errors import FloorError, NoFloor, NoLaying, NoNote, NoNumber, NoTurn, NotPlain

REFUSALS = (NoFloor, NoLaying, NoNumber, NoTurn, NotPlain, NoNote)


class ErrorsTest(unittest.TestCase):
    def test_floor_error_stands_straight_under_value_error(self):
        self.assertEqual(FloorError.__bases__, (ValueError,))

    def test_each_refusal_stands_straight_under_floor_error(self):
        for refusal in REFUSALS:
            with self.subTest(refusal=refusal.__name__):
                self.assertEqual(refusal.__bases__, (FloorError,))

    def test_each_refusal_is_a_class_of_its_own_under_its_name(self):
        self.assertEqual(len(set(REFUSALS)), 6)
        for name in ("FloorError", "NoFloor", "NoLaying", "NoNumber", "NoTurn", "NotPlain", "NoNote"):
            self.assertEqual(getattr(errors, name).__name__, name)

    def test_each_refusal_is_raised_with_words_and_taken_by_its_base(self):
        for refusal in REFUSALS:
            for base in (refusal, FloorError, ValueError):
                with self.subTest(refusal=refusal.__name__, base=base.__name__):
                    with self.assertRaises(base):
                        raise refusal("words")

    def test_no_refusal_is_taken_for_another(self):
        for refusal in REFUSALS:
            for other in REFUSALS:
                self.assertEqual(issubclass(refusal, other), refusal is other)


if __name__ == "__main__":
    unittest.main()
