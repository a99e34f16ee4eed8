"""Halls: calls from inlets to outlets, each put on a frame."""

from switchhall.errors import BadHall
from switchhall.errors import Busy
from switchhall.errors import NoCall
from switchhall.errors import NoEnd
from switchhall.kinds import is_whole
from switchhall.kinds import is_whole_within

MOST_ENDS = 12
MOST_FRAMES = 8

# No refusal shows what was handed in: it may be of any kind, also one that can't be shown.


def check_sizes(inlets, outlets, frames):
    if not is_whole_within(inlets, 1, MOST_ENDS):
        raise BadHall("a hall has 1 to 12 inlets")
    if not is_whole_within(outlets, 1, MOST_ENDS):
        raise BadHall("a hall has 1 to 12 outlets")
    if not is_whole_within(frames, 1, MOST_FRAMES):
        raise BadHall("a hall has 1 to 8 frames")


def free_ends(many, frames):
    return [[None] * frames for end in range(many)]


def end_at(ends, place):
    if not is_whole_within(place, 0, len(ends) - 1):
        raise NoEnd("there is no such inlet or outlet")
    return ends[place]


def load_of(end):
    return len(end) - end.count(None)


def is_full(end):
    return load_of(end) == len(end)


def least_free(end):
    return end.index(None)


def least_free_at_both(one, other):
    for frame in range(len(one)):
        if one[frame] is None and other[frame] is None:
            return frame
    return None


class Hall:
    def __init__(self, inlets, outlets, frames):
        check_sizes(inlets, outlets, frames)
        # Each end is a list that holds, for each frame, the number of its call there or None.
        self.inlet_ends = free_ends(inlets, frames)
        self.outlet_ends = free_ends(outlets, frames)
        # Tuples (inlet, outlet, frame) by the numbers of the calls.
        self.standing = {}
        # Kept apart from the calls that stand, since a dropped number is not given again.
        self.next_number = 0

    def put(self, inlet, outlet):
        inlet_end = end_at(self.inlet_ends, inlet)
        outlet_end = end_at(self.outlet_ends, outlet)
        if is_full(inlet_end) or is_full(outlet_end):
            raise Busy("the inlet or the outlet has a call on every frame")
        moved = []
        frame = least_free_at_both(inlet_end, outlet_end)
        if frame is None:
            frame = least_free(inlet_end)
            moved = self.make_room(outlet, frame, least_free(outlet_end))
        number = self.next_number
        self.next_number = number + 1
        self.lay(number, inlet, outlet, frame)
        return (number, frame, moved)

    def drop(self, number):
        # Asked first: True and 1.0 would be found in a dict as 1, and a list can't be looked up.
        if not is_whole(number) or number not in self.standing:
            raise NoCall("no call has this number now")
        return self.lift(number)[2]

    def calls(self):
        told = []
        for number in sorted(self.standing):
            call = self.standing[number]
            told.append((number, call[0], call[1], call[2]))
        return told

    def load_in(self, inlet):
        return load_of(end_at(self.inlet_ends, inlet))

    def load_out(self, outlet):
        return load_of(end_at(self.outlet_ends, outlet))

    def lay(self, number, inlet, outlet, frame):
        self.standing[number] = (inlet, outlet, frame)
        self.inlet_ends[inlet][frame] = number
        self.outlet_ends[outlet][frame] = number

    def lift(self, number):
        call = self.standing.pop(number)
        self.inlet_ends[call[0]][call[2]] = None
        self.outlet_ends[call[1]][call[2]] = None
        return call

    def make_room(self, outlet, frame, spare):
        moved = sorted(self.way_from(outlet, frame, spare))
        # All are lifted before one is laid: neighbours on the way take each other's frames.
        lifted = [self.lift(number) for number in moved]
        for number, call in zip(moved, lifted):
            self.lay(number, call[0], call[1], spare if call[2] == frame else frame)
        return moved

    def way_from(self, outlet, frame, spare):
        way = []
        number = self.outlet_ends[outlet][frame]
        while number is not None:
            way.append(number)
            call = self.standing[number]
            # The way comes to an inlet by the frame and leaves it by the spare one.
            if call[2] == frame:
                number = self.inlet_ends[call[0]][spare]
            else:
                number = self.outlet_ends[call[1]][frame]
        return way
