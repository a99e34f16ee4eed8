"""Texts: nets written as figures, and read back."""

from switchhall.errors import BadText
from switchhall.kinds import is_whole
from switchhall.nets import NET_SIZES
from switchhall.nets import is_switch

FIGURES = "01"


def shown(net):
    if is_switch(net):
        return str(net)
    return column_shown(net[0]) + shown(net[1]) + shown(net[2]) + column_shown(net[3])


def column_shown(column):
    return "".join([str(switch) for switch in column])


def many_figures(many):
    # One figure for each switch of a net of so many lines.
    if many == 2:
        return 1
    return many + 2 * many_figures(many // 2)


def check_text(text, many):
    # The kinds are asked first: True, 2.0 and what can't be compared are no such numbers.
    if not is_whole(many) or many not in NET_SIZES:
        raise BadText("there are nets of 2, 4, 8 and 16 lines alone")
    if not isinstance(text, str) or len(text) != many_figures(many):
        raise BadText("the text has not one figure for each switch of such a net")
    for sign in text:
        if sign not in FIGURES:
            raise BadText("a net is written in the figures 0 and 1")


def read(text, many):
    check_text(text, many)
    # Found among the two figures, since int would take figures of other scripts too.
    return net_of([FIGURES.index(sign) for sign in text], many)


def net_of(column, many):
    if many == 2:
        return column[0]
    half = many // 2
    within = column[half:-half]
    middle = len(within) // 2
    return (column[:half], net_of(within[:middle], half), net_of(within[middle:], half), column[-half:])
