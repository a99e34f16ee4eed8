"""Timetables: tables of times, their reach, and spells that are together no longer than it."""

from switchhall.errors import BadTable
from switchhall.kinds import is_list_within
from switchhall.kinds import is_whole_within
from switchhall.matches import filled

MOST_ENDS = 6
MOST_NUMBER = 99


def check_row(row):
    if not is_list_within(row, 1, MOST_ENDS):
        raise BadTable("a row is a list of 1 to 6 numbers")
    for number in row:
        if not is_whole_within(number, 0, MOST_NUMBER):
            raise BadTable("a table holds whole numbers from 0 to 99")


def checked_table(table):
    if not is_list_within(table, 1, MOST_ENDS):
        raise BadTable("a table is a list of 1 to 6 rows")
    for row in table:
        check_row(row)
        if len(row) != len(table[0]):
            raise BadTable("the rows are not alike long")
    return [list(row) for row in table]


def column_at(table, place):
    return [row[place] for row in table]


def columns_of(table):
    return [column_at(table, place) for place in range(len(table[0]))]


def greatest_sum(table):
    return max([sum(line) for line in table + columns_of(table)])


def reach(table):
    return greatest_sum(checked_table(table))


def lone(number, place, many):
    return [number if other == place else 0 for other in range(many)]


def evened(table):
    # The table with what each row lacks beside it, what each column lacks below, and itself turned in the corner:
    # so every row and every column comes to the reach, and while time is left each row has a column of its own.
    most = greatest_sum(table)
    columns = columns_of(table)
    above = [row + lone(most - sum(row), place, len(table)) for place, row in enumerate(table)]
    below = [lone(most - sum(column), place, len(columns)) + column for place, column in enumerate(columns)]
    return above + below


def pairs_left(rest):
    pairs = []
    for row, numbers in enumerate(rest):
        pairs.extend([(row, column) for column, number in enumerate(numbers) if number > 0])
    return pairs


def taken_off(rest, pairs):
    # As long as the shortest lasts, so that each spell brings one more number to nought.
    length = min([rest[row][column] for row, column in pairs])
    for row, column in pairs:
        rest[row][column] -= length
    return length


def pairs_within(pairs, table):
    return [pair for pair in pairs if pair[0] < len(table) and pair[1] < len(table[0])]


def timetable(table):
    checked = checked_table(table)
    rest = evened(checked)
    left = greatest_sum(checked)
    spells = []
    while left > 0:
        columns = filled(pairs_left(rest), list(range(len(rest))))[1]
        pairs = list(enumerate(columns))
        length = taken_off(rest, pairs)
        left -= length
        spells.append((length, pairs_within(pairs, checked)))
    return spells
