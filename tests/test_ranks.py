"""The rank of an order, the order of a rank and the next order (points 1, 10 and 17)."""

import itertools
import math
import random
import unittest

from switchhall.errors import BadOrder
from switchhall.ranks import next_order, order_at, rank
from tests.common import AskingCase, BEYOND_SHOWING, NO_ORDERS, Unshowable, WRONG_KINDS, some_orders

NO_LINES = [0, -1, -16, 17, 18, 32, BEYOND_SHOWING, -BEYOND_SHOWING, 16.0, "1", "16", [16], (16,)] + WRONG_KINDS


def orders_in_order(many):
    return sorted(list(order) for order in itertools.permutations(range(many)))


def rank_by_parts(order):
    """How many stand ahead: for each place, those that are alike up to it and go on with a less number."""
    ahead = 0
    for line, place in enumerate(order):
        for less in range(place):
            if less not in order[:line]:
                ahead += math.factorial(len(order) - line - 1)
    return ahead


class RankCase(AskingCase):
    def check_order(self, order, number):
        self.assertEqual(rank(order), number)
        self.assert_whole(rank(order))
        told = order_at(number, len(order))
        self.assertEqual(told, order)
        self.assertIs(type(told), list)
        self.assertEqual({type(place) for place in told}, {int})


class RankTest(RankCase):
    def test_three_lines(self):
        told = [rank(order) for order in [[0, 1, 2], [0, 2, 1], [1, 0, 2], [1, 2, 0], [2, 0, 1], [2, 1, 0]]]
        self.assertEqual(told, [0, 1, 2, 3, 4, 5])

    def test_all_orders_of_few_lines(self):
        for many in range(1, 7):
            for number, order in enumerate(orders_in_order(many)):
                self.check_order(order, number)

    def test_the_first_and_the_last(self):
        for many in range(1, 17):
            self.check_order(list(range(many)), 0)
            self.check_order(list(range(many))[::-1], math.factorial(many) - 1)
        self.check_order(list(range(15, -1, -1)), 20922789887999)

    def test_beside_the_first_and_the_last(self):
        self.check_order(list(range(14)) + [15, 14], 1)
        self.check_order(list(range(15, 1, -1)) + [0, 1], 20922789887998)
        self.check_order([1, 0] + list(range(2, 16)), 1307674368000)
        self.check_order([0] + list(range(15, 0, -1)), 1307674367999)

    def test_many_orders(self):
        for order in some_orders(17, 300):
            self.check_order(order, rank_by_parts(order))

    def test_what_is_no_order(self):
        for order in NO_ORDERS:
            self.assert_refused(BadOrder, rank, order)
        for many in range(1, 17):
            for wrong in [many, -1, None, "0", True, 0.0, Unshowable()]:
                self.assert_refused(BadOrder, rank, [wrong] + list(range(1, many)))
            if many > 1:
                self.assert_refused(BadOrder, rank, [1] + list(range(1, many)))
        self.assert_refused(BadOrder, rank, list(range(17)))

    def test_what_is_handed_in_stays(self):
        for order in [[0], [1, 0], [2, 0, 1], list(range(16)), list(range(16))[::-1]]:
            self.assert_apart(rank, order)


class OrderAtTest(RankCase):
    def test_each_rank_in_order(self):
        for many in range(1, 7):
            told = [order_at(number, many) for number in range(math.factorial(many))]
            self.assertEqual(told, orders_in_order(many))

    def test_many_ranks_of_many_lines(self):
        source = random.Random(18)
        for many in range(7, 17):
            for again in range(30):
                number = source.randrange(math.factorial(many))
                order = order_at(number, many)
                self.assertEqual(sorted(order), list(range(many)))
                self.assertEqual(rank_by_parts(order), number)

    def test_ranks_below_nought_and_beyond_the_last_one(self):
        for many in range(1, 17):
            last = math.factorial(many) - 1
            self.assertEqual(order_at(last, many), list(range(many))[::-1])
            for number in [-1, -2, -last - 1, last + 1, last + 2, 2 * last + 2, (last + 1) * (many + 1),
                           BEYOND_SHOWING, -BEYOND_SHOWING]:
                self.assert_refused(BadOrder, order_at, number, many)

    def test_ranks_of_other_kinds(self):
        for number in WRONG_KINDS + ["2", 2.0, [2], (2,)]:
            for many in [1, 2, 3, 5, 16]:
                self.assert_refused(BadOrder, order_at, number, many)

    def test_other_numbers_of_lines(self):
        for many in NO_LINES:
            for number in [0, 1, -1, 5, math.factorial(16), BEYOND_SHOWING]:
                self.assert_refused(BadOrder, order_at, number, many)

    def test_both_wrong(self):
        for many in NO_LINES:
            for number in WRONG_KINDS:
                self.assert_refused(BadOrder, order_at, number, many)

    def test_what_is_told_stands_apart(self):
        for number, many in [(0, 1), (0, 2), (1, 2), (4, 3), (0, 16), (20922789887999, 16)]:
            self.assert_apart(order_at, number, many)


class NextOrderTest(RankCase):
    def test_three_lines(self):
        self.assertEqual(next_order([0, 1, 2]), [0, 2, 1])
        self.assertEqual(next_order([0, 2, 1]), [1, 0, 2])
        self.assertEqual(next_order([1, 2, 0]), [2, 0, 1])
        self.assertIsNone(next_order([2, 1, 0]))

    def test_the_next_of_each(self):
        for many in range(1, 7):
            orders = orders_in_order(many)
            for order, behind in itertools.zip_longest(orders, orders[1:]):
                self.assertEqual(next_order(order), behind)

    def test_none_behind_the_last_one_alone(self):
        for many in range(1, 17):
            self.assertIsNone(next_order(list(range(many))[::-1]))
            if many > 1:
                self.assertEqual(next_order(list(range(many))), list(range(many - 2)) + [many - 1, many - 2])

    def test_many_lines(self):
        self.assertEqual(next_order(list(range(15, 1, -1)) + [0, 1]), list(range(15, -1, -1)))
        self.assertEqual(next_order([0] + list(range(15, 0, -1))), [1, 0] + list(range(2, 16)))
        for order in some_orders(19, 300):
            if order != sorted(order)[::-1]:
                told = next_order(order)
                self.assertIs(type(told), list)
                self.assertEqual(sorted(told), sorted(order))
                self.assertGreater(told, order)
                self.assertEqual(rank_by_parts(told), rank_by_parts(order) + 1)

    def test_what_is_no_order(self):
        for order in NO_ORDERS:
            self.assert_refused(BadOrder, next_order, order)
        for wrong in [list(range(17)), list(range(16, -1, -1)), [2, 1, 1], [3, 1, 0], (2, 1, 0), [True, False]]:
            self.assert_refused(BadOrder, next_order, wrong)

    def test_what_is_told_stands_apart(self):
        for order in [[0], [0, 1], [1, 0], [2, 0, 1], [2, 1, 0], list(range(16)), list(range(16))[::-1]]:
            self.assert_apart(next_order, order)

    def test_a_refusal_changes_nothing(self):
        order = [2, 0, 0]
        self.assert_refused(BadOrder, next_order, order)
        self.assert_refused(BadOrder, rank, order)
        self.assertEqual(order, [2, 0, 0])


if __name__ == "__main__":
    unittest.main()
