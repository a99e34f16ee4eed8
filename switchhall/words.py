"""Words: which orders come of some orders, one after another, and by which words."""

from switchhall.errors import BadOrder
from switchhall.kinds import is_list_within
from switchhall.kinds import is_whole_within
from switchhall.orders import after
from switchhall.orders import checked_order

MOST_ORDERS = 4
MOST_WORD_LINES = 5


def checked_orders(orders):
    if not is_list_within(orders, 1, MOST_ORDERS):
        raise BadOrder("words are over a list of 1 to 4 orders")
    checked = [checked_order(order) for order in orders]
    for order in checked:
        if len(order) != len(checked[0]):
            raise BadOrder("the orders have not as many lines")
    if len(checked[0]) > MOST_WORD_LINES:
        raise BadOrder("words are over orders of at most 5 lines")
    return checked


def check_word(some, orders):
    if not isinstance(some, list):
        raise BadOrder("a word is a list of places")
    for place in some:
        if not is_whole_within(place, 0, len(orders) - 1):
            raise BadOrder("a word holds places in the list of the orders")


def leaving(orders):
    return list(range(len(orders[0])))


def words_by_order(orders):
    # The shortest words come first and, of equally long ones, the first in order: so the word by which an order is
    # first come to is the one to tell.
    start = leaving(orders)
    found = {tuple(start): []}
    waiting = [start]
    while waiting:
        here = waiting.pop(0)
        for place, order in enumerate(orders):
            there = after(here, order)
            if tuple(there) not in found:
                found[tuple(there)] = found[tuple(here)] + [place]
                waiting.append(there)
    return found


def made(orders):
    found = words_by_order(checked_orders(orders))
    return [list(order) for order in sorted(found)]


def word(orders, goal):
    checked = checked_orders(orders)
    # An order of another number of lines is never come to, so it needs no asking of its own.
    wanted = checked_order(goal)
    return words_by_order(checked).get(tuple(wanted))


def makes(orders, some):
    checked = checked_orders(orders)
    check_word(some, checked)
    order = leaving(checked)
    for place in some:
        order = after(order, checked[place])
    return order
