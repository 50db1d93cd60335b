import unittest

from paritydesk import errors
from tests.helper import REFUSALS


class Errors(unittest.TestCase):
    def test_parity_error_stands_straight_under_value_error(self):
        self.assertEqual(errors.ParityError.__bases__, (ValueError,))

    def test_each_refusal_stands_straight_under_parity_error(self):
        for name in REFUSALS:
            self.assertEqual(getattr(errors, name).__bases__, (errors.ParityError,))

    def test_none_stands_under_another(self):
        for one in REFUSALS:
            for other in REFUSALS:
                under = issubclass(getattr(errors, one), getattr(errors, other))
                self.assertEqual(under, one == other)

    def test_each_is_taken_by_its_own_class_and_by_those_above(self):
        for name in REFUSALS:
            own = getattr(errors, name)
            for taken in (own, errors.ParityError, ValueError):
                with self.assertRaises(taken):
                    raise own(3)

    def test_bad_words_has_its_field(self):
        for at in (None, 0, 7, 19):
            self.assertEqual(errors.BadWords(at).at, at)
            self.assertEqual(errors.BadWords(at=at).at, at)
        one, other = errors.BadWords(1), errors.BadWords(2)
        self.assertEqual((one.at, other.at), (1, 2))

    def test_bad_words_says_where(self):
        self.assertIn("7", str(errors.BadWords(7)))
        self.assertNotEqual(str(errors.BadWords(None)), "")


if __name__ == "__main__":
    unittest.main()
