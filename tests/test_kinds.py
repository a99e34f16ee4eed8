"""What is a whole number, what is a list of some length, and what is none."""

import unittest

from switchhall.kinds import is_list_within, is_whole, is_whole_within

NO_NUMBERS = [True, False, None, "", "1", b"1", 1.0, 0.0, 1j, float("nan"), [], [1], (), (1,), {}, {1}, int, object()]


class WholeTest(unittest.TestCase):
    def test_whole_numbers(self):
        for value in [0, 1, -1, 12, 10 ** 5000, -(10 ** 5000)]:
            self.assertIs(is_whole(value), True)

    def test_what_is_none(self):
        for value in NO_NUMBERS:
            with self.subTest(repr(value)):
                self.assertIs(is_whole(value), False)

    def test_within_takes_both_bounds(self):
        answers = [is_whole_within(value, 3, 5) for value in range(1, 8)]
        self.assertEqual(answers, [False, False, True, True, True, False, False])

    def test_within_takes_no_other_kind(self):
        for value in NO_NUMBERS:
            with self.subTest(repr(value)):
                self.assertIs(is_whole_within(value, 0, 1), False)


class ListTest(unittest.TestCase):
    def test_within_takes_both_bounds(self):
        answers = [is_list_within([None] * many, 1, 3) for many in range(6)]
        self.assertEqual(answers, [False, True, True, True, False, False])

    def test_what_is_none(self):
        for value in [True, None, 1, "", "ab", b"ab", (), (1, 2), {1: 2}, {1, 2}, range(2), list, iter([1]), object()]:
            with self.subTest(repr(value)):
                self.assertIs(is_list_within(value, 0, 3), False)


if __name__ == "__main__":
    unittest.main()
