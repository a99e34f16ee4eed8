"""Nets of switches, and one for each order (points 1, 11, 12 and 13)."""

import itertools
import random
import unittest

from switchhall.errors import BadOrder
from switchhall.nets import depth, lines, net_for, order_of, sent, switches
from tests.common import AskingCase, NO_ORDERS, Unshowable, all_nets_of_four, lists_within, net_from, some_nets

SIZES = [2, 4, 8, 16]
# How many switches are in a net of so many lines, and how many of them a line goes through.
MANY_SWITCHES = {2: 1, 4: 6, 8: 20, 16: 56, 32: 144}
DEPTHS = {2: 1, 4: 3, 8: 5, 16: 7, 32: 9}


def trace(net, line, many):
    """Where a line comes out, and through how many switches it goes, by the words of point 11."""
    if many == 2:
        return (line if net == 0 else 1 - line), 1
    first, upper, lower, last = net
    out = line % 2 if first[line // 2] == 0 else 1 - line % 2
    inner, passed = trace((upper, lower)[out], line // 2, many // 2)
    out = out if last[inner] == 0 else 1 - out
    return 2 * inner + out, passed + 2


def places_of(net, many):
    return [trace(net, line, many)[0] for line in range(many)]


def plain_orders(many):
    """Orders that are all alike within, where a choice shows most."""
    yield list(range(many))
    yield list(range(many - 1, -1, -1))
    for step in range(1, many):
        yield [(line + step) % many for line in range(many)]
        yield [line ^ step for line in range(many)]
    yield [line // 2 + many // 2 * (line % 2) for line in range(many)]
    yield [2 * line % many + 2 * line // many for line in range(many)]
    for one, other in itertools.combinations(range(many), 2):
        order = list(range(many))
        order[one], order[other] = other, one
        yield order


class NetCase(AskingCase):
    def check_form(self, net, many):
        if many == 2:
            self.assert_whole(net)
            self.assertIn(net, (0, 1))
            return
        self.assertIs(type(net), tuple)
        first, upper, lower, last = net
        for column in (first, last):
            self.assertIs(type(column), list)
            self.assertEqual(len(column), many // 2)
            for switch in column:
                self.assert_whole(switch)
                self.assertIn(switch, (0, 1))
        self.assertEqual(last[0], 0)
        self.check_form(upper, many // 2)
        self.check_form(lower, many // 2)

    def check_net_for(self, order):
        net = net_for(order)
        self.check_form(net, len(order))
        self.assertEqual(places_of(net, len(order)), order)
        self.assertEqual(order_of(net), order)


class NetForTest(NetCase):
    def test_two_lines(self):
        self.assertEqual(net_for([0, 1]), 0)
        self.assertEqual(net_for([1, 0]), 1)

    def test_all_orders_of_two_and_four_lines(self):
        for many in [2, 4]:
            for order in itertools.permutations(range(many)):
                self.check_net_for(list(order))

    def test_plain_orders(self):
        for many in SIZES:
            for order in plain_orders(many):
                self.check_net_for(order)

    def test_many_orders_of_eight_and_sixteen_lines(self):
        source = random.Random(12)
        for many, again in [(8, 1200), (16, 500)]:
            for one in range(again):
                self.check_net_for(source.sample(range(many), many))

    def test_orders_that_nets_send(self):
        for many in SIZES:
            for net in some_nets(many, many, 60):
                self.check_net_for(places_of(net, many))

    def test_other_numbers_of_lines(self):
        for many in range(1, 17):
            if many not in SIZES:
                self.assert_refused(BadOrder, net_for, list(range(many)))
                self.assert_refused(BadOrder, net_for, list(range(many))[::-1])
        for many in [17, 18, 32, 64]:
            self.assert_refused(BadOrder, net_for, list(range(many)))

    def test_what_is_no_order(self):
        for order in NO_ORDERS:
            self.assert_refused(BadOrder, net_for, order)
        for many in SIZES:
            for wrong in [many, -1, many - 2, None, "0", True, 1.0, Unshowable()]:
                self.assert_refused(BadOrder, net_for, list(range(many - 1)) + [wrong])
            self.assert_refused(BadOrder, net_for, tuple(range(many)))
            self.assert_refused(BadOrder, net_for, range(many))

    def test_what_is_told_stands_apart(self):
        for many in SIZES:
            for order in [list(range(many)), list(range(many))[::-1]]:
                self.assert_apart(net_for, order)
        self.assertEqual(len(lists_within(net_for(list(range(16))))), 14)


class SentTest(NetCase):
    def check_sent(self, net, many):
        row = [f"thing {line}" for line in range(many)]
        told = sent(net, row)
        self.assertIs(type(told), list)
        places = places_of(net, many)
        self.assertEqual([told[places[line]] for line in range(many)], row)
        order = order_of(net)
        self.assertIs(type(order), list)
        self.assertEqual(order, places)

    def test_a_switch(self):
        self.assertEqual(sent(0, ["a", "b"]), ["a", "b"])
        self.assertEqual(sent(1, ["a", "b"]), ["b", "a"])
        self.assertEqual(order_of(0), [0, 1])
        self.assertEqual(order_of(1), [1, 0])

    def test_each_switch_of_a_net_of_four_lines(self):
        self.assertEqual(sent(([0, 0], 0, 0, [0, 0]), list("abcd")), list("abcd"))
        self.assertEqual(sent(([1, 0], 0, 0, [0, 0]), list("abcd")), list("bacd"))
        self.assertEqual(sent(([0, 1], 0, 0, [0, 0]), list("abcd")), list("abdc"))
        self.assertEqual(sent(([0, 0], 1, 0, [0, 0]), list("abcd")), list("cbad"))
        self.assertEqual(sent(([0, 0], 0, 1, [0, 0]), list("abcd")), list("adcb"))
        self.assertEqual(sent(([0, 0], 0, 0, [1, 0]), list("abcd")), list("bacd"))
        self.assertEqual(sent(([0, 0], 0, 0, [0, 1]), list("abcd")), list("abdc"))

    def test_first_goes_ahead_of_last(self):
        net = ([1, 0], 1, 0, [0, 1])
        self.assertEqual(sent(net, list("abcd")), list("cadb"))
        self.assertEqual(order_of(net), [1, 3, 0, 2])

    def test_all_nets_of_four_lines(self):
        for net in all_nets_of_four():
            self.check_sent(net, 4)

    def test_nets_with_any_switches(self):
        for many in [2, 8, 16]:
            for net in some_nets(many + 1, many, 150):
                self.check_sent(net, many)

    def test_nets_somewhat_beyond(self):
        for net in some_nets(5, 32, 20):
            self.check_sent(net, 32)

    def test_things_of_any_kind(self):
        things = [Unshowable(), None, [1], {}]
        told = sent(([1, 0], 1, 0, [0, 1]), things)
        self.assertEqual([id(thing) for thing in told], [id(things[line]) for line in [2, 0, 3, 1]])
        self.assertEqual(sent(1, [7, 7]), [7, 7])

    def test_what_is_told_stands_apart(self):
        for many in SIZES:
            for net in some_nets(many, many, 5) + [net_for(list(range(many)))]:
                self.assert_apart(sent, net, [f"thing {line}" for line in range(many)])
                for asked in [order_of, switches, depth, lines]:
                    self.assert_apart(asked, net)


class CountTest(NetCase):
    def test_switches_depth_and_lines(self):
        for many in MANY_SWITCHES:
            for net in some_nets(many, many, 10):
                told = (switches(net), depth(net), lines(net))
                self.assertEqual(told, (MANY_SWITCHES[many], DEPTHS[many], many))
                for number in told:
                    self.assert_whole(number)

    def test_they_do_not_hang_on_how_the_switches_are_set(self):
        for many in SIZES:
            for setting in [0, 1]:
                net = net_from(lambda: setting, many)
                self.assertEqual((switches(net), depth(net), lines(net)), (MANY_SWITCHES[many], DEPTHS[many], many))

    def test_the_depth_is_how_many_each_line_goes_through(self):
        for many in SIZES:
            for net in some_nets(many, many, 5):
                passed = [trace(net, line, many)[1] for line in range(many)]
                self.assertEqual(passed, [depth(net)] * many)


if __name__ == "__main__":
    unittest.main()
