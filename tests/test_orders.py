"""Orders, one after another, the way back, rounds and swaps (points 1 and 10)."""

import itertools
import unittest

from switchhall.errors import BadOrder
from switchhall.orders import after, checked_order, rounds, swaps, way_back
from tests.common import AskingCase, NO_ORDERS, all_orders, some_orders

ASKED = [checked_order, way_back, rounds, swaps]


class OrderCase(AskingCase):
    def assert_no_order(self, order):
        for asked in ASKED:
            self.assert_refused(BadOrder, asked, order)
        self.assert_refused(BadOrder, after, order, [0, 1])
        self.assert_refused(BadOrder, after, [0, 1], order)
        self.assert_refused(BadOrder, after, order, order)


class CheckedTest(OrderCase):
    def test_orders(self):
        for order in all_orders(5):
            self.assertEqual(checked_order(order), order)

    def test_the_fewest_and_the_most_lines(self):
        self.assertEqual(checked_order([0]), [0])
        for order in [list(range(16)), list(range(15, -1, -1)), list(range(1, 16)) + [0]]:
            self.assertEqual(checked_order(order), order)

    def test_what_is_no_order(self):
        for order in NO_ORDERS:
            self.assert_no_order(order)

    def test_each_line_left_out_or_doubled(self):
        for many in range(1, 17):
            for line in range(many):
                for wrong in [-1, many, (line + 1) % many if many > 1 else 1]:
                    order = list(range(many))
                    order[line] = wrong
                    self.assert_no_order(order)

    def test_a_list_within_itself(self):
        order = [0]
        order.append(order)
        self.assert_no_order(order)

    def test_what_is_told_stands_apart(self):
        for order in [[0], [1, 0], [2, 0, 1], [3, 2, 1, 0], list(range(16))]:
            for asked in ASKED:
                self.assert_apart(asked, order)
            self.assert_apart(after, order, order)
            self.assert_apart(after, order, list(order))

    def test_a_refusal_changes_nothing(self):
        order = [2, 0, 0]
        self.assert_no_order(order)
        self.assertEqual(order, [2, 0, 0])


class AfterTest(OrderCase):
    def test_the_first_goes_ahead(self):
        # Line 0 goes to 1, and what is at 1 goes to 2; the other way about it would go to 0.
        self.assertEqual(after([1, 0, 2], [0, 2, 1]), [2, 0, 1])
        self.assertEqual(after([0, 2, 1], [1, 0, 2]), [1, 2, 0])

    def test_each_line_goes_where_the_second_sends_its_place(self):
        for many in range(1, 5):
            for first, second in itertools.product(itertools.permutations(range(many)), repeat=2):
                told = after(list(first), list(second))
                self.assertEqual(told, [second[first[line]] for line in range(many)])

    def test_orders_of_unlike_sizes(self):
        for one in range(1, 17):
            for other in range(1, 17):
                if one != other:
                    self.assert_refused(BadOrder, after, list(range(one)), list(range(other)))
        self.assertEqual(after(list(range(16)), list(range(15, -1, -1))), list(range(15, -1, -1)))
        self.assertEqual(after([0], [0]), [0])


class WayBackTest(OrderCase):
    def test_one_order(self):
        self.assertEqual(way_back([2, 0, 1]), [1, 2, 0])
        self.assertEqual(way_back([0]), [0])

    def test_each_place_is_sent_to_its_line(self):
        for order in itertools.chain(all_orders(5), some_orders(1, 100)):
            self.assertEqual(way_back(order), [order.index(place) for place in range(len(order))])
            self.assertEqual(after(order, way_back(order)), list(range(len(order))))


class RoundsTest(OrderCase):
    def test_rounds_of_one_line(self):
        self.assertEqual(rounds([0]), [[0]])
        self.assertEqual(rounds(list(range(16))), [[line] for line in range(16)])
        self.assertEqual(rounds([1, 0, 2]), [[0, 1], [2]])
        self.assertEqual(rounds([0, 2, 1]), [[0], [1, 2]])

    def test_a_round_goes_from_line_to_place(self):
        self.assertEqual(rounds([2, 0, 1]), [[0, 2, 1]])
        self.assertEqual(rounds([1, 2, 0]), [[0, 1, 2]])
        self.assertEqual(rounds([3, 4, 0, 2, 1]), [[0, 3, 2], [1, 4]])
        self.assertEqual(rounds([4, 3, 5, 1, 2, 0]), [[0, 4, 2, 5], [1, 3]])

    def test_one_round_of_all(self):
        self.assertEqual(rounds(list(range(1, 16)) + [0]), [list(range(16))])

    def test_each_by_the_words(self):
        for order in itertools.chain(all_orders(6), some_orders(2, 200)):
            told = rounds(order)
            self.assertEqual(sorted(itertools.chain(*told)), list(range(len(order))))
            firsts = [some[0] for some in told]
            self.assertEqual(firsts, sorted(firsts))
            for some in told:
                self.assertIs(type(some), list)
                self.assertEqual(some[0], min(some))
                self.assertEqual([order[line] for line in some], some[1:] + some[:1])


class SwapsTest(OrderCase):
    def check_swaps(self, order):
        """Done one behind the other they bring each line to its place; counted they are the fewest."""
        told = swaps(order)
        self.assertIs(type(told), list)
        row = list(range(len(order)))
        for place in told:
            self.assert_whole(place)
            self.assertIn(place, range(len(order) - 1))
            row[place], row[place + 1] = row[place + 1], row[place]
        self.assertEqual([order[line] for line in row], list(range(len(order))))
        crossed = [two for two in itertools.combinations(range(len(order)), 2) if order[two[0]] > order[two[1]]]
        self.assertEqual(len(told), len(crossed))

    def test_no_swaps(self):
        for many in range(1, 17):
            self.assertEqual(swaps(list(range(many))), [])

    def test_where_there_is_one_way_alone(self):
        self.assertEqual(swaps([1, 0]), [0])
        # Line 0 goes to place 2: over place 0, then over place 1.
        self.assertEqual(swaps([2, 0, 1]), [0, 1])
        self.assertEqual(swaps([1, 2, 0]), [1, 0])

    def test_the_most_swaps(self):
        self.check_swaps(list(range(15, -1, -1)))
        self.assertEqual(len(swaps(list(range(15, -1, -1)))), 120)

    def test_all_small_orders(self):
        for order in all_orders(6):
            self.check_swaps(order)

    def test_many_orders(self):
        for order in some_orders(3, 200):
            self.check_swaps(order)


if __name__ == "__main__":
    unittest.main()
