"""Ranks: where an order stands among all of as many lines, and which one stands there."""

from switchhall.errors import BadOrder
from switchhall.kinds import is_whole_within
from switchhall.orders import MOST_LINES
from switchhall.orders import checked_order


def many_orders(many):
    product = 1
    for factor in range(1, many + 1):
        product *= factor
    return product


def rank(order):
    checked = checked_order(order)
    ahead = 0
    for line, place in enumerate(checked):
        # Of those that begin like it up to here, the ones that go on with a less place stand ahead.
        less = [other for other in checked[line:] if other < place]
        ahead = ahead * (len(checked) - line) + len(less)
    return ahead


def order_at(number, many):
    if not is_whole_within(many, 1, MOST_LINES):
        raise BadOrder("an order has 1 to 16 lines")
    if not is_whole_within(number, 0, many_orders(many) - 1):
        raise BadOrder("no order of so many lines has this rank")
    left = list(range(many))
    order = []
    ahead = number
    while left:
        # So many orders go on with each of the places that are left.
        alike = many_orders(len(left) - 1)
        order.append(left.pop(ahead // alike))
        ahead = ahead % alike
    return order


def next_order(order):
    behind = rank(order) + 1
    if behind == many_orders(len(order)):
        return None
    return order_at(behind, len(order))
