"""Nets of switches: what they send where, and one for each order."""

from switchhall.errors import BadOrder
from switchhall.orders import checked_order
from switchhall.orders import turned_back

NET_SIZES = (2, 4, 8, 16)


def net_for(order):
    checked = checked_order(order)
    if len(checked) not in NET_SIZES:
        raise BadOrder("there are nets of 2, 4, 8 and 16 lines alone")
    return net_set_for(checked)


def net_set_for(order):
    if len(order) == 2:
        # Line 0 stays at place 0 behind a switch at 0 and goes to place 1 behind one at 1.
        return order[0]
    ends = end_switches(order)
    first = ends[0]
    upper = [order[2 * k + switch] // 2 for k, switch in enumerate(first)]
    lower = [order[2 * k + 1 - switch] // 2 for k, switch in enumerate(first)]
    return (first, net_set_for(upper), net_set_for(lower), ends[1])


def end_switches(order):
    back = turned_back(order)
    many = len(order) // 2
    first = [None] * many
    last = [None] * many
    for k in range(many):
        # Where the choice is free place 2k is come to by the upper net: so the first switch of last is 0.
        place = 2 * k
        while last[place // 2] is None:
            last[place // 2] = place % 2
            line = back[place]
            first[line // 2] = line % 2
            # The line beside it goes through the lower net, so the place beside that one's is come to by the upper.
            place = beside(order[beside(line)])
    return (first, last)


def beside(number):
    return number ^ 1


def is_switch(net):
    return not isinstance(net, tuple)


def sent(net, row):
    if is_switch(net):
        return switched([net], row)
    within = switched(net[0], row)
    above = sent(net[1], within[0::2])
    below = sent(net[2], within[1::2])
    behind = []
    for pair in zip(above, below):
        behind.extend(pair)
    return switched(net[3], behind)


def switched(column, row):
    behind = []
    for k, switch in enumerate(column):
        behind.append(row[2 * k + switch])
        behind.append(row[2 * k + 1 - switch])
    return behind


def order_of(net):
    return turned_back(sent(net, list(range(lines(net)))))


def switches(net):
    if is_switch(net):
        return 1
    return len(net[0]) + switches(net[1]) + switches(net[2]) + len(net[3])


def depth(net):
    if is_switch(net):
        return 1
    return 2 + depth(net[1])


def lines(net):
    if is_switch(net):
        return 2
    return 2 * len(net[0])
