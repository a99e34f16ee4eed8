"""The refusals: their names, and that each stands for itself."""

import unittest

from switchhall import errors

NAMES = ["BadHall", "NoEnd", "Busy", "NoCall", "BadTable", "BadOrder", "BadText", "BadSorters", "Unsound"]


class ErrorsTest(unittest.TestCase):
    def test_any_refusal_is_a_value_error(self):
        self.assertEqual(errors.SwitchError.__bases__, (ValueError,))

    def test_each_is_there_under_its_own_name(self):
        for name in NAMES:
            self.assertEqual(getattr(errors, name).__name__, name)

    def test_each_is_taken_by_the_common_class(self):
        for name in NAMES:
            with self.subTest(name), self.assertRaises(errors.SwitchError):
                raise getattr(errors, name)("refused")

    def test_none_stands_under_another(self):
        for name in NAMES:
            for other in NAMES:
                with self.subTest(name=name, other=other):
                    under = issubclass(getattr(errors, name), getattr(errors, other))
                    self.assertEqual(under, name == other)

    def test_the_common_class_is_none_of_them(self):
        for name in NAMES:
            self.assertFalse(issubclass(errors.SwitchError, getattr(errors, name)))


if __name__ == "__main__":
    unittest.main()
