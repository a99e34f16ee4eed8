"""Halls: which frame is taken, which calls move and which never do (point 3)."""

import random
import unittest

from switchhall.errors import Busy
from switchhall.halls import Hall


def free_frames(calls, side, end, frames):
    taken = [call[3] for call in calls if call[side] == end]
    return [frame for frame in range(frames) if frame not in taken]


def hanging_together(calls, outlet, pair):
    """The numbers of all calls on the two frames that hang together with the outlet, over whatever ends."""
    ends = {(2, outlet)}
    numbers = set()
    while True:
        more = [c for c in calls if c[3] in pair and c[0] not in numbers and ends & {(1, c[1]), (2, c[2])}]
        if not more:
            return sorted(numbers)
        for number, inlet, other, frame in more:
            numbers.add(number)
            ends |= {(1, inlet), (2, other)}


def expected_put(calls, number, inlet, outlet, frames):
    """What put must tell and the calls behind it, by the words of point 3; None where it is Busy."""
    at_inlet = free_frames(calls, 1, inlet, frames)
    at_outlet = free_frames(calls, 2, outlet, frames)
    if not at_inlet or not at_outlet:
        return None
    both = [frame for frame in at_inlet if frame in at_outlet]
    if both:
        return (number, both[0], []), calls + [(number, inlet, outlet, both[0])]
    a, b = at_inlet[0], at_outlet[0]
    moved = hanging_together(calls, outlet, (a, b))
    changed = {a: b, b: a}
    after = [c[:3] + (changed[c[3]],) if c[0] in moved else c for c in calls]
    return (number, a, moved), after + [(number, inlet, outlet, a)]


def filled_hall(sizes, ends):
    hall = Hall(*sizes)
    for inlet, outlet in ends:
        hall.put(inlet, outlet)
    return hall


class MovesTest(unittest.TestCase):
    def test_nothing_moves_where_a_frame_is_free_at_both_ends(self):
        hall = filled_hall((2, 2, 3), [(0, 0), (1, 0)])
        self.assertEqual(hall.put(0, 1), (2, 1, []))
        self.assertEqual(hall.put(1, 1), (3, 0, []))
        # Inlet 0 has 2 free, outlet 0 has 2 free: the last frame serves, and nothing moves.
        self.assertEqual(hall.put(0, 0), (4, 2, []))
        self.assertEqual(hall.calls(), [(0, 0, 0, 0), (1, 1, 0, 1), (2, 0, 1, 1), (3, 1, 1, 0), (4, 0, 0, 2)])

    def test_a_way_of_one_call(self):
        hall = filled_hall((2, 3, 2), [(0, 0), (1, 1), (1, 2)])
        hall.drop(1)
        self.assertEqual(hall.calls(), [(0, 0, 0, 0), (2, 1, 2, 1)])
        self.assertEqual(hall.put(1, 0), (3, 0, [0]))
        self.assertEqual(hall.calls(), [(0, 0, 0, 1), (2, 1, 2, 1), (3, 1, 0, 0)])

    def test_a_way_of_two_calls_is_told_rising(self):
        hall = filled_hall((3, 3, 2), [(0, 0), (0, 1), (2, 2)])
        # The way goes over call 1, then over call 0; call 2 does not hang together with outlet 1.
        self.assertEqual(hall.put(2, 1), (3, 1, [0, 1]))
        self.assertEqual(hall.calls(), [(0, 0, 0, 1), (1, 0, 1, 0), (2, 2, 2, 0), (3, 2, 1, 1)])

    def test_a_way_of_four_calls_leaves_all_others(self):
        hall = filled_hall((4, 4, 3), [(1, 0), (1, 1), (2, 1), (2, 2), (0, 3), (0, 3), (0, 3)])
        hall.drop(4)
        self.assertEqual(hall.put(3, 3), (7, 0, []))
        self.assertEqual(hall.put(1, 2), (8, 2, []))
        self.assertEqual(hall.put(0, 0), (9, 0, [0, 1, 2, 3]))
        # Call 5 is on the same frames, but by the inlet; 7 hangs with no end of the way; 8 is on another frame.
        self.assertEqual(hall.calls(), [
            (0, 1, 0, 1), (1, 1, 1, 0), (2, 2, 1, 1), (3, 2, 2, 0),
            (5, 0, 3, 1), (6, 0, 3, 2), (7, 3, 3, 0), (8, 1, 2, 2), (9, 0, 0, 0),
        ])

    def test_the_least_free_frames_are_exchanged(self):
        hall = filled_hall((2, 2, 4), [(0, 1)] * 4 + [(1, 0)] * 4)
        for number in [0, 2, 5, 7]:
            hall.drop(number)
        # Inlet 0 has 0 and 2 free, outlet 0 has 1 and 3 free.
        self.assertEqual(hall.put(0, 0), (8, 0, [4]))
        self.assertEqual(hall.calls(), [(1, 0, 1, 1), (3, 0, 1, 3), (4, 1, 0, 1), (6, 1, 0, 2), (8, 0, 0, 0)])

    def test_the_new_call_is_on_the_frame_free_at_the_inlet(self):
        hall = filled_hall((2, 2, 4), [(0, 1)] * 4 + [(1, 0)] * 4)
        for number in [1, 3, 4, 6]:
            hall.drop(number)
        # Inlet 0 has 1 and 3 free, outlet 0 has 0 and 2 free.
        self.assertEqual(hall.put(0, 0), (8, 1, [5]))
        self.assertEqual(hall.calls(), [(0, 0, 1, 0), (2, 0, 1, 2), (5, 1, 0, 0), (7, 1, 0, 3), (8, 0, 0, 1)])

    def test_moved_calls_leave_room_where_they_were(self):
        hall = filled_hall((3, 3, 2), [(0, 0), (0, 1), (2, 2), (2, 1)])
        self.assertEqual([hall.load_in(end) for end in range(3)], [2, 0, 2])
        self.assertEqual([hall.load_out(end) for end in range(3)], [1, 2, 1])
        # Call 0 went from 0 to 1, so that outlet 0 has 0 free; outlet 2 still has 1 free.
        self.assertEqual(hall.put(1, 0), (4, 0, []))
        self.assertEqual(hall.put(1, 2), (5, 1, []))


class AgainstTheWordsTest(unittest.TestCase):
    """Long rows of puts and drops, told beforehand by the words of the document."""

    def run_row(self, source, sizes, steps):
        inlets, outlets, frames = sizes
        hall, calls, number, longest = Hall(*sizes), [], 0, 0
        for step in range(steps):
            if calls and source.randrange(5) == 0:
                gone = source.choice(calls)
                calls = [call for call in calls if call != gone]
                self.assertEqual(hall.drop(gone[0]), gone[3])
            else:
                inlet, outlet = source.randrange(inlets), source.randrange(outlets)
                expected = expected_put(calls, number, inlet, outlet, frames)
                if expected is None:
                    self.assertRaises(Busy, hall.put, inlet, outlet)
                else:
                    self.assertEqual(hall.put(inlet, outlet), expected[0])
                    calls, number = expected[1], number + 1
                    longest = max(longest, len(expected[0][2]))
            self.check(hall, calls, sizes)
        return longest

    def check(self, hall, calls, sizes):
        self.assertEqual(hall.calls(), calls)
        self.assertEqual(len({(call[1], call[3]) for call in calls}), len(calls))
        self.assertEqual(len({(call[2], call[3]) for call in calls}), len(calls))
        for end in range(sizes[0]):
            self.assertEqual(hall.load_in(end), len([call for call in calls if call[1] == end]))
        for end in range(sizes[1]):
            self.assertEqual(hall.load_out(end), len([call for call in calls if call[2] == end]))

    def test_halls_of_many_sizes(self):
        source = random.Random(20261116)
        for again in range(60):
            sizes = (source.randint(1, 12), source.randint(1, 12), source.randint(1, 8))
            with self.subTest(again=again, sizes=sizes):
                self.run_row(source, sizes, 80)

    def test_narrow_halls_have_long_ways(self):
        source = random.Random(3)
        longest = [self.run_row(source, (12, 12, frames), 250) for frames in [2, 2, 2, 3, 3, 8]]
        self.assertGreaterEqual(max(longest), 6)


if __name__ == "__main__":
    unittest.main()
