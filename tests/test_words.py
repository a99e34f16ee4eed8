"""Words over orders: what they make, and by which words (points 1, 10 and 18)."""

import itertools
import random
import unittest

from switchhall.errors import BadOrder
from switchhall.words import made, makes, word
from tests.common import AskingCase, BEYOND_SHOWING, NO_ORDERS, Unshowable, WRONG_KINDS, all_orders

TURN = [1, 2, 3, 4, 0]
SWAP = [1, 0, 2, 3, 4]
# One to four orders, of 1 to 5 lines, with unlike many orders that words over them make.
SOME_ORDERS = [
    [[0]], [[0], [0]], [[0], [0], [0], [0]], [[0, 1]], [[1, 0]], [[1, 0], [0, 1]], [[0, 1], [1, 0], [1, 0]],
    [[0, 1, 2]], [[1, 0, 2]], [[1, 2, 0]], [[1, 2, 0], [2, 0, 1]], [[0, 2, 1], [1, 0, 2]],
    [[1, 0, 2, 3], [0, 1, 3, 2]], [[1, 2, 3, 0]], [[1, 2, 3, 0], [3, 0, 1, 2]], [[1, 2, 3, 0], [1, 0, 2, 3]],
    [[1, 0, 2, 3], [0, 2, 1, 3], [0, 1, 3, 2]], [[1, 2, 0, 3], [0, 2, 3, 1]],
    [TURN], [SWAP], [TURN, SWAP], [SWAP, TURN], [TURN, [4, 0, 1, 2, 3], SWAP, [0, 1, 2, 4, 3]],
    [SWAP, [0, 2, 1, 3, 4], [0, 1, 3, 2, 4], [0, 1, 2, 4, 3]], [[0, 1, 2, 3, 4], TURN, [4, 3, 2, 1, 0]],
    [[1, 0, 2, 4, 3], [1, 2, 0, 3, 4]], [[1, 2, 0, 3, 4], [0, 1, 3, 4, 2]],
]
NO_LISTS_OF_ORDERS = [wrong for wrong in WRONG_KINDS if type(wrong) is not list] + [
    [], [0], [1], 0, 1, -1, BEYOND_SHOWING, [0, 1], [1, 0], ([0],), ([1, 0],), ((0,),), [(0,)], [(1, 0)], [[0], (0,)],
    {0: [0]}, "0", ["0"], ["01", "10"], iter([[0]]), [iter([0])], [range(2)], [[[0]]], [[[1, 0]]], [Unshowable()],
    [[0]] * 5, [[1, 0]] * 5, [TURN] * 5, [[0]] * 100, [list(range(6))], [[1, 2, 3, 4, 5, 0]], [list(range(16))],
    [list(range(17))], [[0], [0, 1]], [[0, 1], [0]], [[0, 1], [0, 1], [0, 1, 2]], [[0, 1, 2], [1, 0]],
    [TURN, list(range(6))], [list(range(6)), TURN], [TURN, TURN, TURN, [0, 1, 2, 3]],
    [[]], [[], []], [[0], []], [[], [0]], [[0, 1], None], [None, [0, 1]],
]
NO_WORDS = [wrong for wrong in WRONG_KINDS if type(wrong) is not list] + [
    0, 1, -1, BEYOND_SHOWING, "01", b"01", (0, 1), {0, 1}, iter([0]), [-1], [0, -1], [2], [0, 2], [2, 0], [0, 1, 5],
    [BEYOND_SHOWING], [-BEYOND_SHOWING], [True], [False], [0, True], [0, False, 1], [None], [0, None], ["0"], [0, "1"],
    [0.0], [0, 1.0], [[0]], [[]], [(0,)], [0, [1]], [{}], [Unshowable()], [0, Unshowable()], [0] * 50 + [2],
]


def one_behind(first, second):
    """What comes of two orders, the first ahead: of tuples, by the words of point 10."""
    return tuple(second[place] for place in first)


def made_by(orders, some):
    """What a word makes, by following each line over all of it."""
    told = []
    for line in range(len(orders[0])):
        for place in some:
            line = orders[place][line]
        told.append(line)
    return told


def levels_of(orders):
    """For each length of words, as long as they make something new, all orders that words of this length make."""
    levels = [{tuple(range(len(orders[0])))}]
    found = set(levels[0])
    while True:
        level = {one_behind(order, tuple(other)) for order in levels[-1] for other in orders}
        if level <= found:
            return levels
        levels.append(level)
        found |= level


def first_words(orders, most):
    """By trying all words up to some length, in order: the first of the shortest words for each order."""
    found = {}
    for length in range(most + 1):
        for some in itertools.product(range(len(orders)), repeat=length):
            found.setdefault(tuple(made_by(orders, some)), list(some))
    return found


def some_sets(seed, again):
    source = random.Random(seed)
    for one in range(again):
        many = source.randint(1, 5)
        yield [source.sample(range(many), many) for each in range(source.randint(1, 4))]


class WordCase(AskingCase):
    def assert_no_orders(self, orders):
        self.assert_refused(BadOrder, made, orders)
        for goal in [[0], [0, 1], [1, 0], TURN, list(range(16)), list(range(17)), None, [0, 0]]:
            self.assert_refused(BadOrder, word, orders, goal)
        for some in [[], [0], [0, 0], [1], None, [True]]:
            self.assert_refused(BadOrder, makes, orders, some)

    def check_made(self, orders):
        told = made(orders)
        self.assertIs(type(told), list)
        self.assertEqual(told, sorted(list(order) for order in set().union(*levels_of(orders))))
        for order in told:
            self.assertIs(type(order), list)

    def check_first(self, orders, goal, some, levels):
        """No shorter word makes the goal, and with a less place at any step no word as long does."""
        self.assertIs(type(some), list)
        self.assertEqual(made_by(orders, some), goal)
        for level in levels[:len(some)]:
            self.assertNotIn(tuple(goal), level)
        for step, place in enumerate(some):
            self.assert_whole(place)
            ends = levels[len(some) - step - 1]
            for less in range(place):
                start = tuple(made_by(orders, some[:step] + [less]))
                self.assertNotIn(tuple(goal), {one_behind(start, end) for end in ends})

    def check_words(self, orders):
        levels = levels_of(orders)
        reached = set().union(*levels)
        for goal in itertools.permutations(range(len(orders[0]))):
            some = word(orders, list(goal))
            if goal in reached:
                self.check_first(orders, list(goal), some, levels)
                self.assertEqual(makes(orders, some), list(goal))
            else:
                self.assertIsNone(some)


class MadeTest(WordCase):
    def test_the_leaving_order_is_always_made(self):
        for many in range(1, 6):
            leaving = list(range(many))
            self.assertEqual(made([leaving]), [leaving])
            self.assertEqual(made([leaving] * 4), [leaving])

    def test_written_out(self):
        self.assertEqual(made([[1, 0]]), [[0, 1], [1, 0]])
        self.assertEqual(made([[1, 2, 0]]), [[0, 1, 2], [1, 2, 0], [2, 0, 1]])
        self.assertEqual(made([[1, 0, 2, 3], [0, 1, 3, 2]]),
                         [[0, 1, 2, 3], [0, 1, 3, 2], [1, 0, 2, 3], [1, 0, 3, 2]])

    def test_all_orders_of_five_lines(self):
        told = made([TURN, SWAP])
        self.assertEqual(told, [list(order) for order in itertools.permutations(range(5))])

    def test_rising_and_each_once(self):
        for orders in SOME_ORDERS:
            self.check_made(orders)

    def test_all_orders_alone_and_two_of_few_lines(self):
        for order in all_orders(5):
            self.check_made([order])
        for many in range(1, 4):
            for orders in itertools.product(itertools.permutations(range(many)), repeat=2):
                self.check_made([list(order) for order in orders])

    def test_many(self):
        for orders in some_sets(20, 80):
            self.check_made(orders)

    def test_what_is_told_stands_apart(self):
        for orders in SOME_ORDERS:
            self.assert_apart(made, orders)


class WordTest(WordCase):
    def test_the_empty_word(self):
        for orders in SOME_ORDERS + [[[0, 1, 2, 3, 4]], [[0, 1], [0, 1]]]:
            self.assertEqual(word(orders, list(range(len(orders[0])))), [])

    def test_written_out(self):
        self.assertEqual(word([[1, 0]], [1, 0]), [0])
        self.assertEqual(word([[1, 2, 0]], [2, 0, 1]), [0, 0])
        # First the one that is named first: line 0 goes to 1, then to 2.
        self.assertEqual(word([[1, 0, 2], [0, 2, 1]], [2, 0, 1]), [0, 1])
        self.assertEqual(word([[1, 0, 2], [0, 2, 1]], [1, 2, 0]), [1, 0])

    def test_the_shortest(self):
        self.assertEqual(word([[1, 2, 0], [2, 0, 1]], [2, 0, 1]), [1])
        self.assertEqual(word([[1, 2, 3, 0], [2, 3, 0, 1]], [3, 0, 1, 2]), [0, 1])

    def test_the_first_in_order_of_the_shortest(self):
        self.assertEqual(word([[1, 0], [1, 0]], [1, 0]), [0])
        self.assertEqual(word([[0, 1], [1, 0], [1, 0]], [1, 0]), [1])
        # These two go by one another, so both [0, 1] and [1, 0] make it.
        self.assertEqual(word([[1, 0, 2, 3], [0, 1, 3, 2]], [1, 0, 3, 2]), [0, 1])
        self.assertEqual(word([[0, 2, 1], [1, 0, 2]], [2, 1, 0]), [0, 1, 0])

    def test_none_for_what_is_not_made(self):
        self.assertIsNone(word([[0, 1]], [1, 0]))
        self.assertIsNone(word([[1, 2, 0]], [0, 2, 1]))
        self.assertIsNone(word([TURN], SWAP))

    def test_none_for_a_goal_of_another_number_of_lines(self):
        for orders in SOME_ORDERS:
            for many in range(1, 17):
                if many != len(orders[0]):
                    self.assertIsNone(word(orders, list(range(many))))
                    self.assertIsNone(word(orders, list(range(many))[::-1]))

    def test_held_against_trying_all_words(self):
        for orders in itertools.chain(SOME_ORDERS, some_sets(21, 60)):
            most = {1: 6, 2: 8, 3: 5, 4: 4}[len(orders)]
            found = first_words(orders, most)
            for goal in itertools.permutations(range(len(orders[0]))):
                some = word(orders, list(goal))
                if goal in found:
                    self.assertEqual(some, found[goal])
                else:
                    self.assertTrue(some is None or len(some) > most)

    def test_every_goal_by_the_words(self):
        for orders in itertools.chain(SOME_ORDERS, some_sets(22, 25)):
            self.check_words(orders)

    def test_long_words(self):
        self.assertEqual(word([TURN], [4, 0, 1, 2, 3]), [0, 0, 0, 0])
        neighbours = [SWAP, [0, 2, 1, 3, 4], [0, 1, 3, 2, 4], [0, 1, 2, 4, 3]]
        told = word(neighbours, [4, 3, 2, 1, 0])
        self.assertEqual(told, [0, 1, 0, 2, 1, 0, 3, 2, 1, 0])
        self.assertEqual(made_by(neighbours, told), [4, 3, 2, 1, 0])

    def test_what_is_told_stands_apart(self):
        for orders in SOME_ORDERS:
            for goal in made(orders)[:10] + [[0, 1, 2, 3, 4, 5]]:
                self.assert_apart(word, orders, goal)

    def test_goals_that_are_no_orders(self):
        for orders in [[[0]], [[1, 0]], [[1, 2, 0], [0, 2, 1]], [TURN, SWAP]]:
            for goal in NO_ORDERS:
                self.assert_refused(BadOrder, word, orders, goal)


class MakesTest(WordCase):
    def test_the_empty_word(self):
        for orders in SOME_ORDERS:
            self.assertEqual(makes(orders, []), list(range(len(orders[0]))))

    def test_written_out(self):
        orders = [[1, 0, 2], [0, 2, 1]]
        self.assertEqual(makes(orders, [0]), [1, 0, 2])
        self.assertEqual(makes(orders, [1]), [0, 2, 1])
        self.assertEqual(makes(orders, [0, 1]), [2, 0, 1])
        self.assertEqual(makes(orders, [1, 0]), [1, 2, 0])
        self.assertEqual(makes(orders, [0, 0]), [0, 1, 2])
        self.assertEqual(makes(orders, [0, 1, 0]), [2, 1, 0])

    def test_many_words(self):
        source = random.Random(23)
        for orders in itertools.chain(SOME_ORDERS, some_sets(24, 40)):
            for again in range(10):
                some = [source.randrange(len(orders)) for step in range(source.randint(0, 30))]
                told = makes(orders, some)
                self.assertIs(type(told), list)
                self.assertEqual(told, made_by(orders, some))

    def test_a_long_word(self):
        self.assertEqual(makes([TURN, SWAP], [0] * 5003), [3, 4, 0, 1, 2])
        self.assertEqual(makes([TURN, SWAP], [1] * 5003), SWAP)

    def test_what_is_no_word(self):
        for some in NO_WORDS:
            self.assert_refused(BadOrder, makes, [TURN, SWAP], some)
        for many in range(1, 5):
            self.assertEqual(makes([TURN] * many, [many - 1]), TURN)
            self.assert_refused(BadOrder, makes, [TURN] * many, [many])
            self.assert_refused(BadOrder, makes, [TURN] * many, [0, -1])

    def test_what_is_told_stands_apart(self):
        for orders in SOME_ORDERS:
            for some in [[], [0], [len(orders) - 1], [0, 0, 0]]:
                self.assert_apart(makes, orders, some)


class NoOrdersTest(WordCase):
    def test_no_orders_five_of_them_six_lines_and_unlike_sizes(self):
        self.assert_no_orders([])
        for many in range(1, 6):
            self.assertEqual(made([list(range(many))] * 4), [list(range(many))])
            self.assert_no_orders([list(range(many))] * 5)
            for other in range(1, 6):
                if other != many:
                    self.assert_no_orders([list(range(many)), list(range(other))])
        for many in range(6, 18):
            self.assert_no_orders([list(range(many))])
            self.assert_no_orders([list(range(many))] * 4)

    def test_what_is_no_list_of_orders(self):
        for orders in NO_LISTS_OF_ORDERS:
            self.assert_no_orders(orders)

    def test_one_that_is_no_order(self):
        for wrong in NO_ORDERS:
            for orders in [[wrong], [wrong, [0, 1]], [[0, 1], wrong], [[0, 1], [1, 0], [1, 0], wrong]]:
                self.assert_no_orders(orders)

    def test_a_list_within_itself(self):
        orders = []
        orders.append(orders)
        self.assert_no_orders(orders)
        self.assert_no_orders([[0], orders])

    def test_the_orders_are_refused_first(self):
        # Words over right orders would tell None for such a goal, and the leaving order for such a word.
        for orders in [[], [[0, 0]], [[0]] * 5, [list(range(6))], [[0], [0, 1]]]:
            self.assert_refused(BadOrder, word, orders, list(range(7)))
            self.assert_refused(BadOrder, makes, orders, [])

    def test_a_refusal_changes_nothing(self):
        orders = [[1, 0], [0, 0]]
        self.assert_no_orders(orders)
        self.assertEqual(orders, [[1, 0], [0, 0]])


if __name__ == "__main__":
    unittest.main()
