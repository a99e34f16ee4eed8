"""Sorters, what they do, whether they are sound, lean rows and told rows (points 1, 14, 15 and 16)."""

import itertools
import random
import unittest

from switchhall.errors import BadSorters, Unsound
from switchhall.sorters import checked_sorters, done, fault, lean, told_row
from tests.common import AskingCase, BEYOND_SHOWING, Unshowable, WRONG_KINDS

ASKED = [checked_sorters, fault, lean]

NO_PLACES = [0, -1, -8, 9, 10, 16, 64, BEYOND_SHOWING, -BEYOND_SHOWING, 8.0, "8", [8], (8,)] + WRONG_KINDS

# Sound rows, told by how few they are.
SOUND_THREE = [(0, 1), (1, 2), (0, 1)]
SOUND_FOUR = [(0, 1), (2, 3), (0, 2), (1, 3), (1, 2)]
SOUND_FIVE = [(0, 1), (3, 4), (2, 4), (2, 3), (1, 4), (0, 3), (0, 2), (1, 3), (1, 2)]
SOUND_EIGHT = [(0, 2), (1, 3), (4, 6), (5, 7), (0, 4), (1, 5), (2, 6), (3, 7), (0, 1), (2, 3), (4, 5), (6, 7), (2, 4),
               (3, 5), (1, 4), (3, 6), (1, 2), (3, 4), (5, 6)]
SOUND_ROWS = [([], 1), ([(0, 1)], 2), (SOUND_THREE, 3), (SOUND_FOUR, 4), (SOUND_FIVE, 5), (SOUND_EIGHT, 8)]


def all_sorters(many):
    return list(itertools.combinations(range(many), 2))


def done_by_hand(sorters, row):
    """What stands behind them, found by holding each sorter's two against one another."""
    behind = tuple(row)
    for a, b in sorters:
        less, more = sorted([behind[a], behind[b]])
        behind = behind[:a] + (less,) + behind[a + 1:b] + (more,) + behind[b + 1:]
    return list(behind)


def first_fault(sorters, many):
    """The first list of noughts and ones that is not sorted, among all in order."""
    for row in itertools.product([0, 1], repeat=many):
        if done_by_hand(sorters, row) != sorted(row):
            return list(row)
    return None


def lean_by_hand(sorters, many):
    """The words of point 15: from the last one on, each that is needless among those left is taken out."""
    left = list(enumerate(sorters))
    for one in list(left)[::-1]:
        others = [other for other in left if other != one]
        if first_fault([sorter for place, sorter in others], many) is None:
            left = others
    return [sorter for place, sorter in left]


def some_sorters(source, many, length):
    return [source.choice(all_sorters(many)) for one in range(length)] if many > 1 else []


class SorterCase(AskingCase):
    def assert_no_row(self, sorters, many):
        for asked in ASKED:
            self.assert_refused(BadSorters, asked, sorters, many)

    def check_fault(self, sorters, many):
        told = fault(sorters, many)
        self.assertEqual(told, first_fault(sorters, many))
        if told is not None:
            self.assertIs(type(told), list)
            self.assertEqual({type(figure) for figure in told}, {int})

    def check_lean(self, sorters, many):
        told = lean(sorters, many)
        self.assertIs(type(told), list)
        self.assertEqual(told, lean_by_hand(sorters, many))
        self.assertEqual(told, checked_sorters(told, many))
        self.assertIsNone(fault(told, many))


class CheckedTest(SorterCase):
    def test_rows_of_sorters(self):
        for row, many in SOUND_ROWS:
            self.assertEqual(checked_sorters(row, many), row)
        for many in range(1, 9):
            self.assertEqual(checked_sorters(all_sorters(many), many), all_sorters(many))
            self.assertEqual(checked_sorters([], many), [])

    def test_every_two_numbers(self):
        for many in range(1, 9):
            for sorter in itertools.product(range(-2, 11), repeat=2):
                if sorter in all_sorters(many):
                    self.assertEqual(checked_sorters([sorter], many), [sorter])
                else:
                    self.assert_no_row([sorter], many)

    def test_the_most_sorters(self):
        for many in range(2, 9):
            sorters = (all_sorters(many) * 64)[:64]
            self.assertEqual(checked_sorters(sorters, many), sorters)
            self.check_fault(sorters, many)
            for length in [65, 66, 128, 1000]:
                self.assert_no_row((all_sorters(many) * 1000)[:length], many)

    def test_one_sorter_several_times(self):
        self.assertEqual(checked_sorters([(0, 1)] * 64, 2), [(0, 1)] * 64)

    def test_no_sorter_on_one_place(self):
        for sorter in [(0, 0), (0, 1), (-1, 0), (1, 2)]:
            self.assert_no_row([sorter], 1)

    def test_turned_about_or_one_place_twice(self):
        for many in range(2, 9):
            for a, b in all_sorters(many):
                for wrong in [(b, a), (a, a), (b, b)]:
                    self.assert_no_row([wrong], many)

    def test_beyond_and_below_nought(self):
        for many in range(1, 9):
            for wrong in [(0, many), (many - 1, many), (many, many + 1), (-1, 0), (-1, many - 1), (-2, -1),
                          (0, BEYOND_SHOWING), (-BEYOND_SHOWING, 0), (BEYOND_SHOWING, BEYOND_SHOWING + 1)]:
                self.assert_no_row([wrong], many)

    def test_what_is_no_number_of_places(self):
        for many in NO_PLACES:
            for sorters in [[], [(0, 1)], told_row(8), SOUND_FOUR]:
                self.assert_no_row(sorters, many)

    def test_what_is_no_list(self):
        wrong_ones = [wrong for wrong in WRONG_KINDS if type(wrong) is not list] + [[0], [1], [[]]]
        wrong_ones += [0, 1, -1, BEYOND_SHOWING, ((0, 1),), ((0, 1), (1, 2)), (0, 1), {(0, 1)}, {(0, 1): 1}, "01",
                       iter([(0, 1)]), range(2), zip([0], [1])]
        for wrong in wrong_ones:
            for many in [1, 2, 8]:
                self.assert_no_row(wrong, many)

    def test_sorters_of_other_kinds(self):
        wrong_ones = WRONG_KINDS + [
            0, 1, [0, 1], (0, 1, 2), (0, 1, 1), (0, 1, None), ((0, 1),), ((0, 1), (1, 2)), [(0, 1)], "01", b"01",
            {0: 1, 1: 2}, {0, 1}, range(2), iter((0, 1)), BEYOND_SHOWING]
        for wrong in wrong_ones:
            for sorters in [[wrong], [wrong, (0, 1)], [(0, 1), wrong], [(0, 1), wrong, (0, 1)]]:
                self.assert_no_row(sorters, 2)
                self.assert_no_row(sorters, 8)

    def test_places_of_other_kinds(self):
        for wrong in WRONG_KINDS + ["2", 2.0, [2], (2,), BEYOND_SHOWING, -BEYOND_SHOWING, -1, 8]:
            for sorter in [(wrong, 1), (0, wrong), (wrong, wrong), (wrong, 7), (2, wrong)]:
                self.assert_no_row([sorter], 8)
                self.assert_no_row([(0, 1), sorter], 8)

    def test_a_list_within_itself(self):
        sorters = [(0, 1)]
        sorters.append(sorters)
        self.assert_no_row(sorters, 2)

    def test_what_is_told_stands_apart(self):
        for row, many in SOUND_ROWS + [([(0, 1)] * 64, 2), ([(0, 1)], 3)]:
            self.assert_apart(checked_sorters, row, many)

    def test_a_refusal_changes_nothing(self):
        sorters = [(0, 1), [1, 2], (2, 1)]
        self.assert_no_row(sorters, 3)
        self.assertEqual(sorters, [(0, 1), [1, 2], (2, 1)])


class DoneTest(SorterCase):
    def check_done(self, sorters, row):
        told = done(sorters, row)
        self.assertIs(type(told), list)
        self.assertEqual(told, done_by_hand(sorters, row))

    def test_one_sorter(self):
        self.assertEqual(done([(0, 1)], [5, 3]), [3, 5])
        self.assertEqual(done([(0, 1)], [3, 5]), [3, 5])
        self.assertEqual(done([(0, 1)], [4, 4]), [4, 4])
        self.assertEqual(done([(0, 2)], [9, 1, -9]), [-9, 1, 9])
        self.assertEqual(done([(1, 3)], [7, 6, 5, 4]), [7, 4, 5, 6])

    def test_none(self):
        for row in [[7], [3, 2, 1], [0] * 8]:
            self.assertEqual(done([], row), row)

    def test_one_behind_the_other(self):
        self.assertEqual(done([(0, 1), (1, 2)], [3, 2, 1]), [2, 1, 3])
        self.assertEqual(done([(1, 2), (0, 1)], [3, 2, 1]), [1, 3, 2])
        self.assertEqual(done([(0, 1), (1, 2), (0, 1)], [3, 2, 1]), [1, 2, 3])

    def test_each_sorter(self):
        for many in range(2, 9):
            for sorter in all_sorters(many):
                self.check_done([sorter], list(range(many)))
                self.check_done([sorter], list(range(many, 0, -1)))

    def test_many_rows(self):
        source = random.Random(14)
        for again in range(400):
            many = source.randint(2, 8)
            sorters = some_sorters(source, many, source.randint(0, 64))
            self.check_done(sorters, [source.randint(-3, 3) for place in range(many)])
            self.check_done(sorters, [source.choice([-1, 1]) * source.randrange(10 ** 30) for place in range(many)])

    def test_sound_rows_sort_every_list(self):
        source = random.Random(15)
        for row, many in SOUND_ROWS:
            for again in range(100):
                numbers = [source.randint(-9, 9) for place in range(many)]
                self.assertEqual(done(row, numbers), sorted(numbers))

    def test_rows_somewhat_beyond(self):
        self.check_done([(0, 1), (8, 9)] * 40, list(range(10, 0, -1)))
        self.assertEqual(done([], []), [])

    def test_what_is_told_stands_apart(self):
        for sorters, row in [([], [2, 1]), ([(0, 1)], [2, 1]), ([(0, 1)], [1, 2]), (SOUND_FOUR, [4, 3, 2, 1])]:
            self.assert_apart(done, sorters, row)


class FaultTest(SorterCase):
    def test_sound_rows(self):
        for row, many in SOUND_ROWS:
            self.assertIsNone(fault(row, many))

    def test_the_first_in_order(self):
        self.assertEqual(fault([], 2), [1, 0])
        self.assertEqual(fault([], 3), [0, 1, 0])
        self.assertEqual(fault([], 8), [0, 0, 0, 0, 0, 0, 1, 0])
        self.assertEqual(fault([(1, 2)], 3), [1, 0, 0])
        self.assertEqual(fault([(0, 1)], 3), [0, 1, 0])
        self.assertEqual(fault([(0, 1), (1, 2)], 3), [1, 1, 0])
        self.assertEqual(fault(SOUND_FOUR[:4], 4), [0, 1, 0, 1])

    def test_one_place(self):
        self.assertIsNone(fault([], 1))

    def test_all_short_rows_on_few_places(self):
        for many, most in [(2, 3), (3, 4), (4, 4)]:
            for length in range(most + 1):
                for sorters in itertools.product(all_sorters(many), repeat=length):
                    self.check_fault(list(sorters), many)

    def test_sound_rows_with_one_taken_out(self):
        for row, many in SOUND_ROWS + [(told_row(many), many) for many in range(2, 9)]:
            for place in range(len(row)):
                self.check_fault(row[:place] + row[place + 1:], many)

    def test_the_last_list_alone_is_left_unsorted(self):
        # The nought at the last place goes ahead by one place in each pass, and the last pass is left out.
        for many in range(2, 9):
            passes = [(place, place + 1) for most in range(many - 1, 1, -1) for place in range(most)]
            self.assertEqual(fault(passes, many), [1] * (many - 1) + [0])
            self.assertIsNone(fault(passes + [(0, 1)], many))

    def test_rows_turned_about(self):
        for row, many in SOUND_ROWS:
            for turned in [row[::-1], [(many - 1 - b, many - 1 - a) for a, b in row]]:
                self.check_fault(turned, many)

    def test_many_rows(self):
        source = random.Random(16)
        for again in range(150):
            many = source.randint(2, 8)
            self.check_fault(some_sorters(source, many, source.randint(0, 64)), many)

    def test_what_is_told_stands_apart(self):
        for sorters, many in SOUND_ROWS + [([], 2), ([], 8), ([(0, 1)], 3), (SOUND_EIGHT[:-1], 8)]:
            self.assert_apart(fault, sorters, many)


class LeanTest(SorterCase):
    def test_rows_without_a_needless_sorter(self):
        for row, many in SOUND_ROWS:
            self.assertEqual(lean(row, many), row)

    def test_the_last_ones_go_first(self):
        # Either half of these would do; what is left is the one ahead.
        self.assertEqual(lean([(0, 1), (0, 1)], 2), [(0, 1)])
        self.assertEqual(lean(SOUND_THREE + [(1, 2), (0, 1), (1, 2)], 3), SOUND_THREE)
        self.assertEqual(lean([(1, 2), (0, 1), (1, 2)] + SOUND_THREE, 3), [(1, 2), (0, 1), (1, 2)])
        self.assertEqual(lean([(0, 1), (1, 2), (0, 1), (1, 2)], 3), SOUND_THREE)

    def test_a_needless_sorter_at_each_place(self):
        for row, many in SOUND_ROWS[1:5]:
            for place in range(len(row) + 1):
                for sorter in all_sorters(many):
                    longer = row[:place] + [sorter] + row[place:]
                    if first_fault(longer, many) is None:
                        self.check_lean(longer, many)
                    else:
                        self.assert_refused(Unsound, lean, longer, many)

    def test_needless_sorters_at_several_places(self):
        for row, many in [(SOUND_THREE, 3), (SOUND_FOUR, 4), (SOUND_FIVE, 5), (told_row(6), 6), (SOUND_EIGHT, 8)]:
            doubled = [sorter for sorter in row for again in range(2)]
            self.check_lean(doubled, many)
            self.check_lean([(0, 1)] + row + [(0, many - 1), (1, 2)], many)

    def test_needless_together_but_not_alone(self):
        # Each of both (0, 2) is needless as long as the other one stands.
        row = [(0, 2), (0, 2), (0, 1), (1, 2)]
        self.check_lean(row, 3)
        self.assertEqual(lean(row, 3), [(0, 2), (0, 1), (1, 2)])

    def test_the_most_sorters(self):
        for many in [2, 5, 8]:
            row = (told_row(many) * 64)[:64]
            told = lean(row, many)
            self.assertIsNone(first_fault(told, many))
            self.assertEqual(told, told_row(many))

    def test_many_sound_rows(self):
        source = random.Random(17)
        for again in range(60):
            many = source.randint(2, 5)
            row = some_sorters(source, many, source.randint(0, 12)) + told_row(many)
            row += some_sorters(source, many, source.randint(0, 4))
            if first_fault(row, many) is None:
                self.check_lean(row, many)

    def test_rows_that_are_not_sound(self):
        for sorters, many in [([], 2), ([], 8), ([(0, 1)], 3), ([(1, 2), (0, 1)], 3), (told_row(8)[:-1], 8)]:
            self.assert_refused(Unsound, lean, sorters, many)
        for row, many in SOUND_ROWS:
            for place in range(len(row)):
                self.assert_refused(Unsound, lean, row[:place] + row[place + 1:], many)

    def test_what_is_no_row_is_refused_as_such(self):
        # Neither would be sound.
        self.assert_refused(BadSorters, lean, [(1, 0)], 3)
        self.assert_refused(BadSorters, lean, [(0, 1)] * 65, 3)
        self.assert_refused(BadSorters, lean, [], 9)
        self.assert_refused(BadSorters, lean, [], 0)

    def test_what_is_told_stands_apart(self):
        for row, many in SOUND_ROWS + [(row + row, many) for row, many in SOUND_ROWS]:
            self.assert_apart(lean, row, many)

    def test_a_refusal_changes_nothing(self):
        sorters = [(0, 1), (0, 1)]
        self.assert_refused(Unsound, lean, sorters, 3)
        self.assertEqual(sorters, [(0, 1), (0, 1)])


class ToldRowTest(SorterCase):
    def test_written_out(self):
        self.assertEqual(told_row(1), [])
        self.assertEqual(told_row(2), [(0, 1)])
        self.assertEqual(told_row(3), [(0, 1), (1, 2), (0, 1)])
        self.assertEqual(told_row(4), [(0, 1), (2, 3), (1, 2), (0, 1), (2, 3), (1, 2)])
        self.assertEqual(told_row(5), [(0, 1), (2, 3), (1, 2), (3, 4), (0, 1), (2, 3), (1, 2), (3, 4), (0, 1), (2, 3)])
        even, odd = [(0, 1), (2, 3), (4, 5), (6, 7)], [(1, 2), (3, 4), (5, 6)]
        self.assertEqual(told_row(8), even + odd + even + odd + even + odd + even + odd)

    def test_without_a_fault(self):
        for many in range(1, 9):
            self.assertIsNone(fault(told_row(many), many))
            self.assertIsNone(first_fault(told_row(many), many))

    def test_each_by_the_words(self):
        for many in range(1, 9):
            sorters = []
            for turn in range(many):
                place = turn % 2
                while place + 1 < many:
                    sorters.append((place, place + 1))
                    place += 2
            self.assertEqual(told_row(many), sorters)
            self.assertEqual(checked_sorters(told_row(many), many), sorters)
            self.assertEqual(len(sorters), many * (many - 1) // 2)

    def test_what_is_told_stands_apart(self):
        for many in range(1, 9):
            self.assert_apart(told_row, many)


if __name__ == "__main__":
    unittest.main()
