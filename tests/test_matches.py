"""Matches, stoppers and crowds (points 1, 6 and 7)."""

import itertools
import random
import unittest

from switchhall.matches import filled, match, stoppers
from tests.common import AskingCase

# Inlet k has outlets k and k + 1, but the last one has outlet 0 alone: every other must take its second.
CHAIN = [(k, outlet) for k in range(11) for outlet in (k, k + 1)] + [(11, 0)]


def all_pairs(inlets, outlets):
    return list(itertools.product(range(inlets), range(outlets)))


def all_lists_of_pairs(inlets, outlets):
    every = all_pairs(inlets, outlets)
    for taken in itertools.product([False, True], repeat=len(every)):
        yield [pair for pair, has in zip(every, taken) if has]


def some_pairs(source):
    """Pairs in no order, some of them several times."""
    every = all_pairs(source.randint(1, 12), source.randint(1, 12))
    pairs = source.sample(every, source.randint(0, min(len(every), 30)))
    pairs += source.choices(pairs, k=source.randint(0, 4)) if pairs else []
    source.shuffle(pairs)
    return pairs


def is_match(pairs):
    inlets = [pair[0] for pair in pairs]
    outlets = [pair[1] for pair in pairs]
    return len(set(inlets)) == len(inlets) and len(set(outlets)) == len(outlets)


def most_by_trying(pairs):
    for many in range(len(pairs), -1, -1):
        if any(is_match(some) for some in itertools.combinations(pairs, many)):
            return many


def outlets_of(pairs, inlets):
    return {outlet for inlet, outlet in pairs if inlet in inlets}


class MatchCase(AskingCase):
    def check_match(self, pairs):
        places = match(pairs)
        self.assertIs(type(places), list)
        self.assertEqual(places, sorted(set(places)))
        for place in places:
            self.assert_whole(place)
            self.assertIn(place, range(len(pairs)))
        self.assertTrue(is_match([pairs[place] for place in places]))
        return places

    def check_stoppers(self, pairs):
        ends = stoppers(pairs)
        self.assertIs(type(ends), list)
        self.assertEqual(ends, sorted(set(ends)))
        for end in ends:
            self.assertIs(type(end), tuple)
            self.assertIn(end[0], ("in", "out"))
            self.assertEqual(len(end), 2)
            self.assert_whole(end[1])
        for inlet, outlet in pairs:
            self.assertTrue(("in", inlet) in ends or ("out", outlet) in ends, (inlet, outlet))
        return ends

    def check_both(self, pairs):
        """Each pair of a match takes a stopper of its own: where they are equally many, neither can be bettered."""
        places = self.check_match(pairs)
        self.assertEqual(len(self.check_stoppers(pairs)), len(places))
        return len(places)


class MatchTest(MatchCase):
    def test_no_pairs(self):
        self.assertEqual(match([]), [])
        self.assertEqual(stoppers([]), [])

    def test_one_pair(self):
        self.assertEqual(match([(11, 0)]), [0])
        self.assertIn(stoppers([(11, 0)]), ([("in", 11)], [("out", 0)]))

    def test_a_pair_several_times_goes_through_once(self):
        for many in range(2, 6):
            self.assertEqual(self.check_both([(3, 4)] * many), 1)
        self.assertEqual(self.check_both([(0, 1), (0, 1), (1, 0), (0, 1), (1, 0)]), 2)

    def test_pairs_of_one_end_go_through_one_at_a_time(self):
        self.assertEqual(self.check_both([(5, outlet) for outlet in range(12)]), 1)
        self.assertEqual(stoppers([(5, outlet) for outlet in range(12)]), [("in", 5)])
        self.assertEqual(self.check_both([(inlet, 5) for inlet in range(12)]), 1)
        self.assertEqual(stoppers([(inlet, 5) for inlet in range(12)]), [("out", 5)])

    def test_stoppers_rise_as_tuples(self):
        pairs = [(11, outlet) for outlet in range(5, 9)] + [(inlet, 2) for inlet in range(4, 8)]
        pairs += [(10, outlet) for outlet in range(5, 9)] + [(inlet, 0) for inlet in range(4, 8)]
        self.assertEqual(stoppers(pairs), [("in", 10), ("in", 11), ("out", 0), ("out", 2)])

    def test_an_early_choice_is_taken_back(self):
        self.assertEqual(match([(0, 0), (0, 1), (1, 0)]), [1, 2])
        self.assertEqual(match([(1, 0), (0, 0), (0, 1)]), [0, 2])
        self.assertEqual(match([(1, 1), (1, 0), (0, 1)]), [1, 2])

    def test_many_early_choices_are_taken_back(self):
        self.assertEqual(match(CHAIN), list(range(1, 22, 2)) + [22])
        source = random.Random(6)
        for again in range(50):
            pairs = source.sample(CHAIN, len(CHAIN))
            self.assertEqual(self.check_both(pairs), 12)
            turned = [(11 - outlet, 11 - inlet) for inlet, outlet in pairs]
            self.assertEqual(self.check_both(turned), 12)

    def test_every_pair_there_is(self):
        for inlets in range(1, 13):
            for outlets in range(1, 13):
                self.assertEqual(self.check_both(all_pairs(inlets, outlets)), min(inlets, outlets))

    def test_against_trying_all(self):
        for pairs in all_lists_of_pairs(3, 3):
            self.assertEqual(self.check_both(pairs), most_by_trying(pairs))
            self.assertEqual(self.check_both(pairs[::-1] + pairs[:2]), most_by_trying(pairs))

    def test_many_pairs(self):
        source = random.Random(7)
        for again in range(600):
            self.check_both(some_pairs(source))

    def test_numbers_somewhat_beyond(self):
        self.assertEqual(self.check_both([(12, 15), (12, 30), (20, 15), (13, 99)]), 3)
        self.assertEqual(filled([(12, 15), (12, 30), (20, 15)], [12, 20]), ("filled", [30, 15]))
        self.assertEqual(filled([(12, 15), (20, 15)], [20, 12]), ("crowd", [12, 20]))

    def test_what_is_told_stands_apart(self):
        for pairs in [[], [(3, 4)] * 3, CHAIN, all_pairs(3, 5), all_pairs(5, 3)]:
            self.assert_apart(match, pairs)
            self.assert_apart(stoppers, pairs)


class FilledTest(MatchCase):
    def check_filled(self, pairs, inlets):
        """What is told shows itself that it is right: no outlets can be told where there is a crowd."""
        told = filled(pairs, inlets)
        self.assertIs(type(told), tuple)
        kind, some = told
        self.assertIs(type(some), list)
        for number in some:
            self.assert_whole(number)
        if kind == "filled":
            self.assertEqual(len(some), len(inlets))
            self.assertEqual(len(set(some)), len(some))
            for pair in zip(inlets, some):
                self.assertIn(pair, pairs)
        else:
            self.assertEqual(kind, "crowd")
            self.assertEqual(some, sorted(set(some)))
            self.assertLessEqual(set(some), set(inlets))
            self.assertLess(len(outlets_of(pairs, some)), len(some))
        return kind

    def test_no_inlets(self):
        for pairs in [[], [(0, 0)], CHAIN]:
            self.assertEqual(filled(pairs, []), ("filled", []))

    def test_inlets_without_a_pair(self):
        self.assertEqual(filled([], [4]), ("crowd", [4]))
        self.assertEqual(filled([(0, 0), (2, 1)], [0, 1, 2]), ("crowd", [1]))
        self.assertEqual(filled([(0, 0), (2, 1)], [1]), ("crowd", [1]))

    def test_the_outlets_stand_in_the_order_of_the_inlets(self):
        pairs = [(0, 7), (1, 3), (2, 11), (3, 0)]
        for inlets in itertools.permutations(range(4)):
            expected = [[7, 3, 11, 0][inlet] for inlet in inlets]
            self.assertEqual(filled(pairs, list(inlets)), ("filled", expected))

    def test_inlets_that_do_not_rise_take_choices_back(self):
        self.assertEqual(filled([(0, 0), (0, 1), (1, 0)], [0, 1]), ("filled", [1, 0]))
        self.assertEqual(filled([(0, 0), (0, 1), (1, 0)], [1, 0]), ("filled", [0, 1]))
        source = random.Random(8)
        for again in range(50):
            inlets = source.sample(range(12), 12)
            expected = [0 if inlet == 11 else inlet + 1 for inlet in inlets]
            self.assertEqual(filled(CHAIN, inlets), ("filled", expected))

    def test_a_crowd_of_all(self):
        self.assertEqual(filled([(2, 5), (1, 5)], [2, 1]), ("crowd", [1, 2]))
        pairs = all_pairs(4, 3)
        self.assertEqual(filled(pairs, [3, 1, 0, 2]), ("crowd", [0, 1, 2, 3]))

    def test_a_crowd_of_some_only(self):
        pairs = [(0, 5), (1, 5), (2, 6), (2, 7), (3, 8)]
        for inlets in itertools.permutations(range(4)):
            self.assertEqual(filled(pairs, list(inlets)), ("crowd", [0, 1]))

    def test_inlets_that_were_not_handed_in_take_nothing(self):
        pairs = [(0, 0), (1, 0), (2, 0)]
        for inlet in range(3):
            self.assertEqual(filled(pairs, [inlet]), ("filled", [0]))
        self.assertEqual(filled(pairs, [2, 0]), ("crowd", [0, 2]))

    def test_a_pair_several_times_is_one_outlet(self):
        self.assertEqual(filled([(0, 0), (1, 0), (0, 0), (1, 0)], [1, 0]), ("crowd", [0, 1]))
        self.assertEqual(filled([(0, 0), (0, 0), (1, 1), (1, 1)], [1, 0]), ("filled", [1, 0]))

    def test_one_of_the_two_and_never_both(self):
        for pairs in all_lists_of_pairs(3, 3):
            for many in range(4):
                for inlets in itertools.permutations(range(3), many):
                    asked = [pair for pair in pairs if pair[0] in inlets]
                    expected = "filled" if most_by_trying(asked) == many else "crowd"
                    self.assertEqual(self.check_filled(pairs, list(inlets)), expected)

    def test_many_pairs(self):
        source = random.Random(9)
        kinds = []
        for again in range(600):
            inlets = source.sample(range(12), source.randint(0, 6))
            kinds.append(self.check_filled(some_pairs(source), inlets))
        self.assertGreater(min(kinds.count("filled"), kinds.count("crowd")), 50)

    def test_what_is_told_stands_apart(self):
        for inlets in [[], [2, 0, 1], [3, 0, 2, 1]]:
            self.assert_apart(filled, all_pairs(4, 3), inlets)
            self.assert_apart(filled, CHAIN, inlets)


if __name__ == "__main__":
    unittest.main()
