"""The refusals, as the interface tells them."""

import unittest

from turngrid import errors

NAMES = ["NoQuad", "NoStone", "NoGrid", "NoDial", "NoParts", "NoWay", "NoName", "NoNumbers", "NoRow"]


class ErrorsTest(unittest.TestCase):
    def test_any_refusal_is_a_value_error(self):
        self.assertTrue(issubclass(errors.SpaceError, ValueError))
        for name in NAMES:
            self.assertFalse(issubclass(errors.SpaceError, getattr(errors, name)), name)

    def test_each_refusal_stands_under_space_error(self):
        for name in NAMES:
            refusal = getattr(errors, name)
            self.assertTrue(issubclass(refusal, errors.SpaceError), name)
            self.assertIsNot(refusal, errors.SpaceError, name)
            self.assertEqual(refusal.__name__, name)

    def test_no_refusal_stands_under_another_one(self):
        for name in NAMES:
            for other in NAMES:
                if name != other:
                    self.assertFalse(issubclass(getattr(errors, name), getattr(errors, other)), (name, other))

    def test_each_refusal_is_raised_with_words_and_taken_by_name(self):
        for name in NAMES:
            refusal = getattr(errors, name)
            for taken in (refusal, errors.SpaceError, ValueError):
                with self.assertRaises(taken):
                    raise refusal("some words")


if __name__ == "__main__":
    unittest.main()
