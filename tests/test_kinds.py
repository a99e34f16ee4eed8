"""What is a whole number, and what is none."""

import unittest

from switchhall.kinds import is_whole, is_whole_within

NO_NUMBERS = [True, False, None, "", "1", b"1", 1.0, 0.0, 1j, float("nan"), [], [1], (), (1,), {}, {1}, int, object()]


class WholeTest(unittest.TestCase):
    def test_whole_numbers(self):
        for value in [0, 1, -1, 12, 10 ** 5000, -(10 ** 5000)]:
            self.assertIs(is_whole(value), True)

    def test_what_is_none(self):
        for value in NO_NUMBERS:
            with self.subTest(repr(value)):
                self.assertIs(is_whole(value), False)

    def test_within_takes_both_bounds(self):
        answers = [is_whole_within(value, 3, 5) for value in range(1, 8)]
        self.assertEqual(answers, [False, False, True, True, True, False, False])

    def test_within_takes_no_other_kind(self):
        for value in NO_NUMBERS:
            with self.subTest(repr(value)):
                self.assertIs(is_whole_within(value, 0, 1), False)


if __name__ == "__main__":
    unittest.main()
