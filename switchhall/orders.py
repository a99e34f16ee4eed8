"""Orders of lines: one after another, the way back, rounds and swaps."""

from switchhall.errors import BadOrder
from switchhall.kinds import is_list_within
from switchhall.kinds import is_whole

MOST_LINES = 16


def checked_order(order):
    if not is_list_within(order, 1, MOST_LINES):
        raise BadOrder("an order is a list of 1 to 16 numbers")
    # Asked of all first, so that what can't be compared never is.
    for place in order:
        if not is_whole(place):
            raise BadOrder("an order holds whole numbers")
    if sorted(order) != list(range(len(order))):
        raise BadOrder("an order holds each number from 0 to below how many there are once")
    return list(order)


def after(order, other):
    first = checked_order(order)
    second = checked_order(other)
    if len(first) != len(second):
        raise BadOrder("the orders have not as many lines")
    return [second[place] for place in first]


def turned_back(order):
    back = list(order)
    for line, place in enumerate(order):
        back[place] = line
    return back


def way_back(order):
    return turned_back(checked_order(order))


def round_from(order, least):
    told = [least]
    place = order[least]
    while place != least:
        told.append(place)
        place = order[place]
    return told


def rounds(order):
    checked = checked_order(order)
    told = []
    gone = {}
    for line in range(len(checked)):
        # The lines rise, so a round is first met at its least one.
        if line not in gone:
            found = round_from(checked, line)
            told.append(found)
            for other in found:
                gone[other] = True
    return told


def exchange(row, one, other):
    kept = row[one]
    row[one] = row[other]
    row[other] = kept


def swaps(order):
    # At each place stands where the line there is to go. An exchange turns round one two of lines alone, so none
    # is wasted where only those that stand the wrong way about are exchanged.
    goals = checked_order(order)
    told = []
    for behind in range(1, len(goals)):
        place = behind - 1
        while place >= 0 and goals[place] > goals[place + 1]:
            exchange(goals, place, place + 1)
            told.append(place)
            place -= 1
    return told
