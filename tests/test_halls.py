"""Halls: sizes, ends, numbers, loads and refusals (points 1, 2, 4 and 5)."""

import unittest

from switchhall import errors
from switchhall.halls import Hall
from tests.common import AskingCase, BEYOND_SHOWING, WRONG_KINDS


class HallCase(AskingCase):
    def state(self, hall, inlets, outlets):
        loads_in = [hall.load_in(inlet) for inlet in range(inlets)]
        loads_out = [hall.load_out(outlet) for outlet in range(outlets)]
        return hall.calls(), loads_in, loads_out


class SizesTest(HallCase):
    def test_every_size_within_the_bounds(self):
        for inlets in range(1, 13):
            for outlets in range(1, 13):
                for frames in range(1, 9):
                    hall = Hall(inlets, outlets, frames)
                    self.assertEqual(hall.put(inlets - 1, outlets - 1), (0, 0, []))

    def test_one_below_and_one_beyond_each_bound(self):
        for sizes in [(0, 3, 3), (3, 0, 3), (3, 3, 0), (13, 3, 3), (3, 13, 3), (3, 3, 9)]:
            with self.subTest(sizes):
                self.assert_refused(errors.BadHall, Hall, *sizes)

    def test_far_out_sizes(self):
        for size in [-1, -12, 100, BEYOND_SHOWING, -BEYOND_SHOWING]:
            for sizes in [(size, 3, 3), (3, size, 3), (3, 3, size)]:
                self.assert_refused(errors.BadHall, Hall, *sizes)

    def test_frames_are_bounded_apart_from_ends(self):
        self.assertEqual(Hall(9, 9, 8).calls(), [])
        for frames in [9, 10, 11, 12]:
            self.assert_refused(errors.BadHall, Hall, 12, 12, frames)

    def test_sizes_of_other_kinds(self):
        for wrong in WRONG_KINDS:
            for sizes in [(wrong, 3, 3), (3, wrong, 3), (3, 3, wrong)]:
                self.assert_refused(errors.BadHall, Hall, *sizes)

    def test_a_hall_has_as_many_ends_as_it_was_given(self):
        hall = Hall(2, 3, 1)
        self.assertEqual(hall.load_in(1), 0)
        self.assertEqual(hall.load_out(2), 0)
        self.assert_refused(errors.NoEnd, hall.load_in, 2)
        self.assert_refused(errors.NoEnd, hall.load_out, 3)
        self.assert_refused(errors.NoEnd, hall.put, 2, 2)
        self.assert_refused(errors.NoEnd, hall.put, 1, 3)
        self.assertEqual(hall.put(1, 2), (0, 0, []))

    def test_a_hall_has_as_many_frames_as_it_was_given(self):
        for frames in range(1, 9):
            hall = Hall(12, 12, frames)
            for frame in range(frames):
                self.assertEqual(hall.put(11, 11), (frame, frame, []))
            self.assert_refused(errors.Busy, hall.put, 11, 11)


class PutTest(HallCase):
    def test_the_least_frame_free_at_both_ends_is_taken(self):
        hall = Hall(3, 3, 4)
        self.assertEqual(hall.put(0, 0), (0, 0, []))
        self.assertEqual(hall.put(1, 1), (1, 0, []))
        self.assertEqual(hall.put(0, 1), (2, 1, []))
        self.assertEqual(hall.put(1, 0), (3, 1, []))
        self.assertEqual(hall.put(0, 2), (4, 2, []))
        self.assertEqual(hall.put(2, 2), (5, 0, []))
        self.assertEqual(hall.put(2, 1), (6, 2, []))

    def test_one_pair_has_several_calls(self):
        hall = Hall(2, 2, 3)
        self.assertEqual([hall.put(1, 0) for again in range(3)], [(0, 0, []), (1, 1, []), (2, 2, [])])
        self.assertEqual(hall.calls(), [(0, 1, 0, 0), (1, 1, 0, 1), (2, 1, 0, 2)])

    def test_put_tells_a_tuple_with_a_list(self):
        told = Hall(1, 1, 1).put(0, 0)
        self.assertIs(type(told), tuple)
        self.assertIs(type(told[2]), list)

    def test_numbers_are_given_once(self):
        hall = Hall(1, 2, 1)
        for number in range(20):
            self.assertEqual(hall.put(0, number % 2), (number, 0, []))
            self.assertEqual(hall.drop(number), 0)

    def test_a_refused_call_takes_no_number(self):
        hall = Hall(2, 2, 1)
        hall.put(0, 0)
        self.assert_refused(errors.Busy, hall.put, 0, 1)
        self.assert_refused(errors.NoEnd, hall.put, 0, 2)
        self.assertEqual(hall.put(1, 1), (1, 0, []))

    def test_ends_one_out_of_bounds(self):
        hall = Hall(3, 5, 2)
        for ends in [(-1, 0), (3, 0), (0, -1), (0, 5), (4, 2), (3, 5), (BEYOND_SHOWING, 0), (0, -BEYOND_SHOWING)]:
            self.assert_refused(errors.NoEnd, hall.put, *ends)
        self.assertEqual(hall.calls(), [])

    def test_ends_of_other_kinds(self):
        hall = Hall(3, 3, 2)
        for wrong in WRONG_KINDS:
            self.assert_refused(errors.NoEnd, hall.put, wrong, 0)
            self.assert_refused(errors.NoEnd, hall.put, 0, wrong)
            self.assert_refused(errors.NoEnd, hall.put, wrong, wrong)
        self.assertEqual(hall.calls(), [])

    def test_a_busy_inlet_and_a_busy_outlet(self):
        hall = Hall(3, 3, 2)
        hall.put(0, 1)
        hall.put(0, 2)
        hall.put(1, 0)
        hall.put(2, 0)
        self.assert_refused(errors.Busy, hall.put, 0, 1)
        self.assert_refused(errors.Busy, hall.put, 1, 0)
        self.assert_refused(errors.Busy, hall.put, 0, 0)

    def test_no_end_goes_ahead_of_busy(self):
        hall = Hall(2, 2, 1)
        hall.put(0, 0)
        for wrong in WRONG_KINDS + [-1, 2]:
            self.assert_refused(errors.NoEnd, hall.put, 0, wrong)
            self.assert_refused(errors.NoEnd, hall.put, wrong, 0)

    def test_a_freed_end_is_busy_no_more(self):
        hall = Hall(1, 1, 2)
        hall.put(0, 0)
        hall.put(0, 0)
        self.assert_refused(errors.Busy, hall.put, 0, 0)
        self.assertEqual(hall.drop(0), 0)
        self.assertEqual(hall.put(0, 0), (2, 0, []))
        self.assert_refused(errors.Busy, hall.put, 0, 0)


class DropTest(HallCase):
    def hall_with_calls(self):
        hall = Hall(3, 3, 3)
        hall.put(0, 0)
        hall.put(0, 1)
        hall.put(1, 1)
        hall.put(0, 2)
        return hall

    def test_the_frame_is_told_and_no_other_call_moves(self):
        hall = self.hall_with_calls()
        before = [(0, 0, 0, 0), (1, 0, 1, 1), (2, 1, 1, 0), (3, 0, 2, 2)]
        self.assertEqual(hall.calls(), before)
        for number in [1, 3, 0, 2]:
            left = hall.calls()
            gone = [call for call in left if call[0] == number][0]
            self.assertEqual(hall.drop(number), gone[3])
            left.remove(gone)
            self.assertEqual(hall.calls(), left)
        self.assertEqual(hall.calls(), [])

    def test_the_frame_is_free_at_both_ends(self):
        hall = self.hall_with_calls()
        self.assertEqual(hall.drop(1), 1)
        self.assertEqual((hall.load_in(0), hall.load_out(1)), (2, 1))
        self.assertEqual(hall.put(0, 1), (4, 1, []))

    def test_a_moved_call_is_dropped_from_where_it_is_now(self):
        hall = Hall(3, 3, 2)
        hall.put(0, 0)
        hall.put(0, 1)
        hall.put(2, 2)
        self.assertEqual(hall.put(2, 1), (3, 1, [0, 1]))
        self.assertEqual(hall.drop(0), 1)
        self.assertEqual(hall.drop(1), 0)
        self.assertEqual(hall.put(0, 1), (4, 0, []))
        self.assertEqual(hall.calls(), [(2, 2, 2, 0), (3, 2, 1, 1), (4, 0, 1, 0)])

    def test_numbers_that_no_call_has_now(self):
        hall = self.hall_with_calls()
        hall.drop(2)
        before = self.state(hall, 3, 3)
        for number in [2, 4, 5, -1, -2, BEYOND_SHOWING, -BEYOND_SHOWING]:
            self.assert_refused(errors.NoCall, hall.drop, number)
        self.assertEqual(self.state(hall, 3, 3), before)

    def test_a_number_is_dropped_once(self):
        hall = Hall(1, 1, 1)
        hall.put(0, 0)
        hall.drop(0)
        self.assert_refused(errors.NoCall, hall.drop, 0)
        hall.put(0, 0)
        self.assert_refused(errors.NoCall, hall.drop, 0)
        self.assertEqual(hall.calls(), [(1, 0, 0, 0)])

    def test_numbers_of_other_kinds(self):
        hall = self.hall_with_calls()
        before = self.state(hall, 3, 3)
        for wrong in WRONG_KINDS:
            self.assert_refused(errors.NoCall, hall.drop, wrong)
        self.assertEqual(self.state(hall, 3, 3), before)

    def test_an_empty_hall_has_no_number(self):
        self.assert_refused(errors.NoCall, Hall(1, 1, 1).drop, 0)


class TellingTest(HallCase):
    def test_an_empty_hall(self):
        hall = Hall(2, 3, 1)
        self.assertEqual(self.state(hall, 2, 3), ([], [0, 0], [0, 0, 0]))

    def test_calls_are_tuples_rising_by_number(self):
        hall = Hall(3, 3, 2)
        hall.put(2, 0)
        hall.put(1, 2)
        hall.put(0, 1)
        told = hall.calls()
        self.assertEqual(told, [(0, 2, 0, 0), (1, 1, 2, 0), (2, 0, 1, 0)])
        self.assertIs(type(told), list)
        self.assertEqual([type(call) for call in told], [tuple, tuple, tuple])

    def test_calls_rise_after_a_move_too(self):
        hall = Hall(3, 3, 2)
        hall.put(0, 0)
        hall.put(0, 1)
        hall.put(2, 2)
        hall.put(2, 1)
        self.assertEqual(hall.calls(), [(0, 0, 0, 1), (1, 0, 1, 0), (2, 2, 2, 0), (3, 2, 1, 1)])

    def test_loads_are_told_of_inlets_and_of_outlets(self):
        hall = Hall(2, 3, 3)
        hall.put(0, 2)
        hall.put(0, 2)
        hall.put(0, 1)
        hall.put(1, 2)
        self.assertEqual(self.state(hall, 2, 3)[1:], ([3, 1], [0, 1, 3]))
        hall.drop(1)
        self.assertEqual(self.state(hall, 2, 3)[1:], ([2, 1], [0, 1, 2]))

    def test_loads_of_no_end(self):
        hall = Hall(2, 3, 1)
        for wrong in WRONG_KINDS + [-1, BEYOND_SHOWING]:
            self.assert_refused(errors.NoEnd, hall.load_in, wrong)
            self.assert_refused(errors.NoEnd, hall.load_out, wrong)
        self.assert_refused(errors.NoEnd, hall.load_in, 2)
        self.assert_refused(errors.NoEnd, hall.load_out, 3)


class ApartTest(HallCase):
    def test_lists_that_were_told_are_the_askers_own(self):
        hall = Hall(3, 3, 2)
        unmoved = hall.put(0, 0)[2]
        hall.put(0, 1)
        hall.put(2, 2)
        moved = hall.put(2, 1)[2]
        before = self.state(hall, 3, 3)
        unmoved.append(7)
        moved.clear()
        told = hall.calls()
        told.reverse()
        told.append("more")
        self.assertEqual(self.state(hall, 3, 3), before)
        self.assertEqual(hall.put(1, 0), (4, 0, []))

    def test_lists_are_new_each_time(self):
        hall = Hall(2, 2, 2)
        self.assertIsNot(hall.put(0, 0)[2], hall.put(1, 1)[2])
        self.assertIsNot(hall.calls(), hall.calls())

    def test_two_halls_stand_apart(self):
        one = Hall(2, 2, 2)
        other = Hall(2, 2, 2)
        one.put(0, 0)
        one.put(0, 1)
        self.assertEqual(self.state(other, 2, 2), ([], [0, 0], [0, 0]))
        self.assert_refused(errors.NoCall, other.drop, 0)
        self.assertEqual(other.put(0, 1), (0, 0, []))
        self.assertEqual(other.drop(0), 0)
        self.assertEqual(self.state(one, 2, 2), ([(0, 0, 0, 0), (1, 0, 1, 1)], [2, 0], [1, 1]))
        self.assertEqual(one.put(1, 0), (2, 1, []))

    def test_what_is_handed_in_is_not_changed(self):
        wrong_list, wrong_dict = [0, [1]], {0: [1]}
        hall = Hall(2, 2, 2)
        for wrong in [wrong_list, wrong_dict]:
            self.assert_refused(errors.BadHall, Hall, wrong, wrong, wrong)
            self.assert_refused(errors.NoEnd, hall.put, wrong, wrong)
            self.assert_refused(errors.NoEnd, hall.load_in, wrong)
            self.assert_refused(errors.NoEnd, hall.load_out, wrong)
            self.assert_refused(errors.NoCall, hall.drop, wrong)
        self.assertEqual((wrong_list, wrong_dict), ([0, [1]], {0: [1]}))

    def test_a_refusal_changes_nothing(self):
        hall = Hall(3, 3, 2)
        hall.put(0, 0)
        hall.put(0, 1)
        hall.put(2, 2)
        before = self.state(hall, 3, 3)
        self.assert_refused(errors.Busy, hall.put, 0, 1)
        self.assert_refused(errors.Busy, hall.put, 0, 2)
        for wrong in WRONG_KINDS + [-1, 3]:
            self.assert_refused(errors.NoEnd, hall.put, 0, wrong)
            self.assert_refused(errors.NoEnd, hall.put, wrong, 1)
            self.assert_refused(errors.NoCall, hall.drop, wrong)
            self.assert_refused(errors.NoEnd, hall.load_in, wrong)
            self.assert_refused(errors.NoEnd, hall.load_out, wrong)
        self.assertEqual(self.state(hall, 3, 3), before)
        self.assertEqual(hall.put(2, 1), (3, 1, [0, 1]))


if __name__ == "__main__":
    unittest.main()
