"""Nets written as texts and read back (points 1 and 13)."""

import itertools
import unittest

from switchhall.errors import BadText
from switchhall.nets import net_for
from switchhall.texts import read, shown
from tests.common import (
    AskingCase, BEYOND_SHOWING, Unshowable, WRONG_KINDS, all_nets_of_four, lists_within, net_from, some_nets)

# How many figures a net of so many lines is written in.
FIGURES = {2: 1, 4: 6, 8: 20, 16: 56}
# Signs that Python, or the eye, could take for a figure 0 or 1.
OTHER_SIGNS = ["2", "9", "a", "O", "l", " ", "\n", "\t", "-", "+", "_", ".", "\0", "\u0660", "\u0661", "\uff10",
               "\uff11", "\u00b9", "\u00b2", "\u2080", "\U0001d7ce", "\U0001d7cf", "\u0301", "\ud800"]
NO_SIZES = [0, 1, 3, 5, 6, 7, 9, 10, 12, 15, 17, 20, 31, 32, 56, 64, 144, -1, -2, -4, -16, BEYOND_SHOWING,
            -BEYOND_SHOWING, 2.0, 4.0, 8.0, 16.0, "2", "4", "16", b"2", [2], (2,), (2, 4, 8, 16)] + WRONG_KINDS


def written(net, many):
    """The figures of a net by the words of point 13."""
    if many == 2:
        return ["01"[net]]
    first, upper, lower, last = net
    figures = ["01"[switch] for switch in first]
    figures += written(upper, many // 2) + written(lower, many // 2)
    return figures + ["01"[switch] for switch in last]


class TextCase(AskingCase):
    def assert_same_net(self, net, other):
        """The very net: of equal switches, which are whole numbers, in lists and tuples alike."""
        self.assertEqual(repr(net), repr(other))

    def check_text_of(self, net, many):
        text = shown(net)
        self.assertIs(type(text), str)
        self.assertEqual(text, "".join(written(net, many)))
        self.assertEqual(len(text), FIGURES[many])
        self.assert_same_net(read(text, many), net)


class ShownTest(TextCase):
    def test_a_switch(self):
        self.assertEqual(shown(0), "0")
        self.assertEqual(shown(1), "1")

    def test_each_switch_of_a_net_of_four_lines(self):
        self.assertEqual(shown(([0, 0], 0, 0, [0, 0])), "000000")
        self.assertEqual(shown(([1, 0], 0, 0, [0, 0])), "100000")
        self.assertEqual(shown(([0, 1], 0, 0, [0, 0])), "010000")
        self.assertEqual(shown(([0, 0], 1, 0, [0, 0])), "001000")
        self.assertEqual(shown(([0, 0], 0, 1, [0, 0])), "000100")
        self.assertEqual(shown(([0, 0], 0, 0, [1, 0])), "000010")
        self.assertEqual(shown(([0, 0], 0, 0, [0, 1])), "000001")
        self.assertEqual(shown(([1, 0], 1, 0, [0, 1])), "101001")

    def test_a_net_of_eight_lines(self):
        upper = ([0, 1], 0, 1, [1, 1])
        lower = ([1, 0], 1, 1, [0, 0])
        net = ([1, 1, 0, 1], upper, lower, [0, 0, 1, 0])
        self.assertEqual(shown(net), "1101" + "010111" + "101100" + "0010")

    def test_nets_somewhat_beyond(self):
        for net in some_nets(32, 32, 10):
            self.assertEqual(shown(net), "".join(written(net, 32)))
            self.assertEqual(len(shown(net)), 144)

    def test_what_is_handed_in_stays(self):
        for many in FIGURES:
            for net in some_nets(many, many, 5):
                self.assert_apart(shown, net)


class ReadBackTest(TextCase):
    def test_all_nets_of_two_and_four_lines(self):
        for switch in [0, 1]:
            self.check_text_of(switch, 2)
        for net in all_nets_of_four():
            self.check_text_of(net, 4)

    def test_nets_of_eight_and_sixteen_lines(self):
        for many in [8, 16]:
            for net in some_nets(many + 13, many, 200):
                self.check_text_of(net, many)

    def test_each_switch_alone(self):
        for many, figures in FIGURES.items():
            for place in range(figures):
                settings = iter([int(other == place) for other in range(figures)])
                net = net_from(lambda: next(settings), many)
                self.check_text_of(net, many)
                self.assertEqual(shown(net).index("1"), place)

    def test_all_switches_alike(self):
        for many in FIGURES:
            for setting in [0, 1]:
                self.check_text_of(net_from(lambda: setting, many), many)

    def test_nets_that_are_told_for_orders(self):
        for many in FIGURES:
            for order in [list(range(many)), list(range(many))[::-1], list(range(1, many)) + [0]]:
                self.check_text_of(net_for(order), many)

    def test_all_texts_of_four_lines(self):
        told = {repr(read("".join(signs), 4)) for signs in itertools.product("01", repeat=6)}
        self.assertEqual(told, {repr(net) for net in all_nets_of_four()})

    def test_switches_are_whole_numbers_in_lists(self):
        self.assert_whole(read("0", 2))
        self.assert_whole(read("1", 2))
        self.assertEqual(repr(read("101001", 4)), "([1, 0], 1, 0, [0, 1])")

    def test_what_is_told_stands_apart(self):
        for many, figures in FIGURES.items():
            for text in ["0" * figures, "1" * figures, ("01" * figures)[:figures]]:
                self.assert_apart(read, text, many)
        self.assertEqual(len(lists_within(read("0" * 56, 16))), 14)


class NoTextTest(TextCase):
    def test_a_figure_too_short_or_too_long(self):
        for many, figures in FIGURES.items():
            for length in list(range(70)) + [112, 144, 100000]:
                if length != figures:
                    for figure in "01":
                        self.assert_refused(BadText, read, figure * length, many)

    def test_texts_for_another_number_of_lines(self):
        for many in FIGURES:
            for net in some_nets(many, many, 5):
                for other in FIGURES:
                    if other != many:
                        self.assert_refused(BadText, read, shown(net), other)

    def test_another_sign_at_each_place(self):
        for many, figures in FIGURES.items():
            for sign in OTHER_SIGNS:
                for place in range(figures):
                    text = "0" * place + sign + "1" * (figures - place - 1)
                    self.assert_refused(BadText, read, text, many)

    def test_another_sign_ahead_or_behind(self):
        for many, figures in FIGURES.items():
            for sign in OTHER_SIGNS + ["0", "1", "01"]:
                self.assert_refused(BadText, read, sign + "0" * figures, many)
                self.assert_refused(BadText, read, "0" * figures + sign, many)

    def test_the_empty_text(self):
        for many in FIGURES:
            self.assert_refused(BadText, read, "", many)

    def test_what_is_no_text(self):
        for many, figures in FIGURES.items():
            wrong_ones = [wrong for wrong in WRONG_KINDS if type(wrong) is not str]
            wrong_ones += [0, 1, 10, -1, BEYOND_SHOWING, b"0" * figures, bytearray(b"0" * figures), ["0"] * figures,
                           ("1",) * figures, [0] * figures, (1,) * figures, dict.fromkeys(range(figures), "0"),
                           range(figures), iter("0" * figures), net_for(list(range(many))), [Unshowable()] * figures]
            for wrong in wrong_ones:
                self.assert_refused(BadText, read, wrong, many)

    def test_what_is_no_such_number_of_lines(self):
        for many in NO_SIZES:
            for text in ["", "0", "1", "000000", "0" * 20, "0" * 56, "0" * 144]:
                self.assert_refused(BadText, read, text, many)

    def test_both_wrong(self):
        for wrong in WRONG_KINDS:
            for many in NO_SIZES:
                self.assert_refused(BadText, read, wrong, many)

    def test_a_refusal_changes_nothing(self):
        wrong = ["0", "1", [0]]
        self.assert_refused(BadText, read, wrong, wrong)
        self.assertEqual(wrong, ["0", "1", [0]])


if __name__ == "__main__":
    unittest.main()
