"""What the tests have in common: things to hand in, right and wrong, refusals, and lists that stand apart."""

import copy
import itertools
import random
import unittest

from switchhall import errors


class Unshowable:
    """A thing that can't be shown, compared or looked up."""

    __hash__ = None

    def refuse(self, *rest):
        raise RuntimeError("not to be asked")

    __repr__ = __str__ = __eq__ = __lt__ = __le__ = __gt__ = __ge__ = refuse
    __bool__ = __len__ = __int__ = __index__ = refuse


# None is a whole number; each equals, or could be taken for, one or a list of some.
WRONG_KINDS = [
    True, False, None, "", "0", "1", b"0", 0.0, 1.0, float("nan"), 1j,
    [], [0], [1], (), (0,), (1,), {}, {0: 1}, {1}, range(2), int, Unshowable, Unshowable(),
]

BEYOND_SHOWING = 10 ** 5000

# Lists are told here one by one: [0], wrong where a number is asked for, is an order.
NO_ORDERS = [wrong for wrong in WRONG_KINDS if type(wrong) is not list] + [
    [], list(range(17)), list(range(16)) + [15], [1], [-1], [2], [0, 0], [1, 1], [1, 2], [0, 2], [0, 1, 1], [0, 1, 3],
    [2, 1, 2], [-1, 0], [0, -1], [0, 1, -1], [0, BEYOND_SHOWING], [-BEYOND_SHOWING, 0], [False], [True], [0, True],
    [False, 1], [False, True], [2, True, 0], [0, None], [None], [0, "1"], ["0"], [0.0], [0, 1.0], [[0]], [0, [1]],
    [(0,)], [0, Unshowable()], [Unshowable(), 0], [Unshowable()], [0, {}], [0, 1j], [float("nan"), 0], (0, 1), (1, 0),
    "01", b"01", {0: 0}, {0, 1}, iter([0, 1]), 0, 1, -1, BEYOND_SHOWING,
]


def lists_within(value):
    """Each list in a value, from the outside in; a list that stands in it twice comes twice."""
    found = [value] if type(value) is list else []
    if type(value) in (list, tuple):
        for part in value:
            found += lists_within(part)
    return found


def all_orders(most):
    for many in range(1, most + 1):
        for order in itertools.permutations(range(many)):
            yield list(order)


def some_orders(seed, many):
    source = random.Random(seed)
    for again in range(many):
        lines = source.randint(1, 16)
        yield source.sample(range(lines), lines)


def net_from(switch, many):
    """A net whose switches are told one by one."""
    if many == 2:
        return switch()
    first = [switch() for k in range(many // 2)]
    upper, lower = net_from(switch, many // 2), net_from(switch, many // 2)
    return (first, upper, lower, [switch() for k in range(many // 2)])


def all_nets_of_four():
    for settings in itertools.product([0, 1], repeat=6):
        told = iter(settings)
        yield net_from(lambda: next(told), 4)


def some_nets(seed, many, again):
    source = random.Random(seed)
    return [net_from(lambda: source.randrange(2), many) for one in range(again)]


class AskingCase(unittest.TestCase):
    def assert_refused(self, refusal, asked, *arguments):
        """Refused with the very class, which the common class takes too."""
        try:
            asked(*arguments)
        except errors.SwitchError as refused:
            self.assertIs(type(refused), refusal)
        else:
            self.fail("not refused")

    def assert_apart(self, asked, *arguments):
        """What is handed in stays as it was, and what was told may be changed without a change to anything else."""
        before = copy.deepcopy(arguments)
        told = asked(*arguments)
        self.assertEqual(arguments, before)
        kept = copy.deepcopy(told)
        lists = lists_within(told)
        handed_in = [id(each) for each in lists_within(arguments)]
        self.assertEqual(len({id(each) for each in lists}), len(lists))
        for each in lists:
            self.assertNotIn(id(each), handed_in)
            each.reverse()
            each.append("more")
        self.assertEqual(arguments, before)
        self.assertEqual(asked(*arguments), kept)

    def assert_whole(self, value):
        """A whole number, and no truth that equals one."""
        self.assertIs(type(value), int)
