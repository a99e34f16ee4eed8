"""Sorters: rows of them, what they do to a list, whether they sort every one, and which of them are needless."""

from switchhall.errors import BadSorters
from switchhall.errors import Unsound
from switchhall.kinds import is_list_within
from switchhall.kinds import is_whole_within
from switchhall.orders import exchange

MOST_PLACES = 8
MOST_SORTERS = 64


def is_sorter(value, many):
    if not isinstance(value, tuple) or len(value) != 2:
        return False
    # The first is known to be a number before the second is held against it.
    return is_whole_within(value[0], 0, many - 1) and is_whole_within(value[1], value[0] + 1, many - 1)


def checked_sorters(sorters, many):
    if not is_whole_within(many, 1, MOST_PLACES):
        raise BadSorters("there are 1 to 8 places")
    if not is_list_within(sorters, 0, MOST_SORTERS):
        raise BadSorters("a row of sorters is a list of at most 64")
    for sorter in sorters:
        if not is_sorter(sorter, many):
            raise BadSorters("a sorter is a tuple of two places, the first less than the second")
    return list(sorters)


def done(sorters, row):
    behind = list(row)
    for low, high in sorters:
        if behind[low] > behind[high]:
            exchange(behind, low, high)
    return behind


def noughts_and_ones(many):
    # All lists of so many, in order.
    rows = [[]]
    for place in range(many):
        rows = [[0] + row for row in rows] + [[1] + row for row in rows]
    return rows


def first_unsorted(sorters, many):
    # Noughts and ones are enough: where two neighbours of any list come out the wrong way about, so do those of the
    # list that has ones for all that is more than the less of them.
    for row in noughts_and_ones(many):
        if done(sorters, row) != sorted(row):
            return row
    return None


def fault(sorters, many):
    return first_unsorted(checked_sorters(sorters, many), many)


def lean(sorters, many):
    left = checked_sorters(sorters, many)
    if first_unsorted(left, many) is not None:
        raise Unsound("the row does not sort every list")
    for place in range(len(left) - 1, -1, -1):
        # Those ahead of this place all stand yet, so it is still the place of the same sorter.
        without = left[:place] + left[place + 1:]
        if first_unsorted(without, many) is None:
            left = without
    return left


def told_row(many):
    sorters = []
    for turn in range(many):
        sorters.extend([(place, place + 1) for place in range(turn % 2, many - 1, 2)])
    return sorters
