"""Tables of times, their reach and timetables (points 1, 8 and 9)."""

import itertools
import random
import unittest

from switchhall.errors import BadTable
from switchhall.times import checked_table, reach, timetable
from tests.common import AskingCase, BEYOND_SHOWING, Unshowable, WRONG_KINDS

ASKED = [checked_table, reach, timetable]


def even_table(rows, columns, number):
    return [[number] * columns for row in range(rows)]


def some_table(source, most):
    rows, columns = source.randint(1, 6), source.randint(1, 6)
    return [[source.choice([0, source.randint(0, most)]) for column in range(columns)] for row in range(rows)]


def busiest(table):
    return max([sum(row) for row in table] + [sum(column) for column in zip(*table)])


class TableCase(AskingCase):
    def assert_no_table(self, table):
        for asked in ASKED:
            self.assert_refused(BadTable, asked, table)

    def check_spell(self, spell, rows, columns):
        self.assertIs(type(spell), tuple)
        length, pairs = spell
        self.assert_whole(length)
        self.assertGreaterEqual(length, 1)
        self.assertIs(type(pairs), list)
        self.assertEqual(pairs, sorted(pairs))
        self.assertEqual(len({pair[0] for pair in pairs}), len(pairs))
        self.assertEqual(len({pair[1] for pair in pairs}), len(pairs))
        for pair in pairs:
            self.assertIs(type(pair), tuple)
            self.assertEqual([type(number) for number in pair], [int, int])
            self.assertIn(pair[0], range(rows))
            self.assertIn(pair[1], range(columns))

    def check_timetable(self, table):
        rows, columns = len(table), len(table[0])
        spells = timetable(table)
        self.assertIs(type(spells), list)
        joined = even_table(rows, columns, 0)
        for spell in spells:
            self.check_spell(spell, rows, columns)
            for row, column in spell[1]:
                joined[row][column] += spell[0]
        self.assertEqual(joined, table)
        self.assertEqual(sum(spell[0] for spell in spells), busiest(table))
        self.assertLessEqual(len(spells), (rows + columns) * (rows + columns))
        return spells


class TableTest(TableCase):
    def test_every_size_within_the_bounds(self):
        for rows in range(1, 7):
            for columns in range(1, 7):
                table = even_table(rows, columns, 7)
                self.assertEqual(checked_table(table), table)
                self.assertEqual(reach(table), 7 * max(rows, columns))

    def test_one_below_and_one_beyond_each_size(self):
        for rows, columns in [(7, 1), (7, 6), (1, 7), (6, 7), (7, 7), (1, 0), (6, 0), (20, 3), (3, 20)]:
            with self.subTest(rows=rows, columns=columns):
                self.assert_no_table(even_table(rows, columns, 1))
        self.assert_no_table([])

    def test_rows_of_unlike_length(self):
        for table in [[[1], [1, 2]], [[1, 2], [1]], [[1, 2], [1, 2], [1]], [[1], [1], []], [[], [1]], [[], []],
                      [[1, 2], [3, 4], [5, 6, 7]], [[1, 2, 3], [4, 5, 6], [7, 8]]]:
            with self.subTest(table=table):
                self.assert_no_table(table)

    def test_numbers_at_and_beyond_each_bound(self):
        for number in [0, 1, 98, 99]:
            self.assertEqual(checked_table([[number, 5], [5, 5]]), [[number, 5], [5, 5]])
        for number in [-1, 100, -99, 1000, BEYOND_SHOWING, -BEYOND_SHOWING]:
            for table in [[[number]], [[number, 5], [5, 5]], [[5, number], [5, 5]], [[5, 5], [5, number]]]:
                self.assert_no_table(table)

    def test_tables_of_other_kinds(self):
        for wrong in WRONG_KINDS + [5, "12", ([1],), ((1,),), {0: [1]}, iter([[1]]), range(3)]:
            self.assert_no_table(wrong)

    def test_rows_of_other_kinds(self):
        for wrong in [None, True, False, 1, "", "1", "12", b"1", (), (1,), (1, 2), {}, {0: 1}, {1, 2}, range(2), 1.5,
                      int, Unshowable(), []]:
            for table in [[wrong], [wrong, [1, 2]], [[1, 2], wrong], [[1], wrong], [[1, 2], [1, 2], wrong]]:
                self.assert_no_table(table)

    def test_numbers_of_other_kinds(self):
        for wrong in WRONG_KINDS:
            for table in [[[wrong]], [[wrong, 2], [3, 4]], [[1, wrong], [3, 4]], [[1, 2], [3, wrong]]]:
                self.assert_no_table(table)

    def test_a_list_within_itself(self):
        table = []
        table.append(table)
        self.assert_no_table(table)
        self.assert_no_table([[1], table])

    def test_a_checked_table_stands_apart(self):
        for table in [[[0]], [[1, 2], [3, 4]], even_table(6, 6, 99), [[4, 5, 6]] * 3]:
            self.assert_apart(checked_table, table)

    def test_a_refusal_changes_nothing(self):
        table = [[1, 2], [3, 100]]
        self.assert_no_table(table)
        self.assertEqual(table, [[1, 2], [3, 100]])


class ReachTest(TableCase):
    def test_a_row_is_the_busiest(self):
        self.assertEqual(reach([[1, 2, 3], [4, 5, 6]]), 15)

    def test_a_column_is_the_busiest(self):
        self.assertEqual(reach([[1, 9], [2, 8], [3, 7]]), 24)
        self.assertEqual(reach([[5], [6], [7]]), 18)

    def test_the_edges(self):
        self.assertEqual(reach([[0]]), 0)
        self.assertEqual(reach(even_table(6, 6, 0)), 0)
        self.assertEqual(reach([[99]]), 99)
        self.assertEqual(reach(even_table(6, 6, 99)), 594)
        self.assert_whole(reach([[3]]))

    def test_many_tables(self):
        source = random.Random(8)
        for again in range(300):
            table = some_table(source, 99)
            self.assertEqual(reach(table), busiest(table))

    def test_what_is_handed_in_stays(self):
        self.assert_apart(reach, [[1, 2], [3, 4], [5, 6]])


class TimetableTest(TableCase):
    def test_all_noughts_take_no_time(self):
        for rows in range(1, 7):
            for columns in range(1, 7):
                self.assertEqual(timetable(even_table(rows, columns, 0)), [])

    def test_one_number(self):
        for number in range(1, 100):
            spells = self.check_timetable([[number]])
            self.assertEqual([pairs for length, pairs in spells], [[(0, 0)]] * len(spells))

    def test_ends_that_do_not_meet_are_joined_at_once(self):
        spells = self.check_timetable([[4, 0, 0], [0, 4, 0], [0, 0, 4]])
        self.assertEqual({tuple(pairs) for length, pairs in spells}, {((0, 0), (1, 1), (2, 2))})

    def test_one_row_and_one_column(self):
        for many in range(1, 7):
            self.check_timetable([list(range(many))])
            self.check_timetable([[number] for number in range(many)])
            self.check_timetable(even_table(1, many, 99))
            self.check_timetable(even_table(many, 1, 99))

    def test_every_size_with_the_greatest_numbers(self):
        for rows in range(1, 7):
            for columns in range(1, 7):
                self.check_timetable(even_table(rows, columns, 99))

    def test_ends_that_wait(self):
        self.check_timetable([[5, 0], [0, 2]])
        self.check_timetable([[99, 1], [1, 0]])
        self.check_timetable([[0, 0, 9], [0, 0, 1], [7, 0, 0]])

    def test_all_small_tables(self):
        for rows, columns in [(1, 1), (1, 2), (2, 1), (2, 2), (2, 3), (3, 2)]:
            for numbers in itertools.product(range(3), repeat=rows * columns):
                self.check_timetable([list(numbers[row * columns:(row + 1) * columns]) for row in range(rows)])

    def test_many_tables(self):
        source = random.Random(9)
        for most in [1, 3, 20, 99]:
            for again in range(60):
                self.check_timetable(some_table(source, most))

    def test_tables_with_many_unlike_numbers(self):
        source = random.Random(10)
        for again in range(40):
            self.check_timetable([source.sample(range(100), 6) for row in range(6)])

    def test_what_is_told_stands_apart(self):
        for table in [[[0]], [[3]], [[1, 2], [3, 4], [5, 6]], [[4, 5, 6]] * 3, even_table(6, 6, 9)]:
            self.assert_apart(timetable, table)


if __name__ == "__main__":
    unittest.main()
