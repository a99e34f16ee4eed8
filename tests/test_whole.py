"""What is promised over the whole program: its interface, and points 1 and 4 for everything in it."""

import copy
import importlib
import inspect
import itertools
import unittest

from switchhall import errors
from switchhall.halls import Hall
from tests.common import AskingCase, BEYOND_SHOWING, NO_ORDERS, WRONG_KINDS

# For each module its functions: arguments, refusals, and some arguments to ask with.
PAIRS = [(0, 0), (0, 1), (1, 0), (2, 0), (0, 1)]
NET = ([1, 0], 1, 0, [0, 1])
LARGE_NET = ([1, 0, 0, 1], NET, ([0, 0], 0, 1, [1, 1]), [0, 1, 1, 1])
TABLE = [[2, 1, 0], [0, 3, 5]]
ROW = [(0, 1), (1, 2), (0, 1), (0, 2)]
ORDERS = [[1, 0, 2, 3], [1, 2, 3, 0]]

INTERFACE = {
    "matches": {
        "match": (["pairs"], [], [[PAIRS], [[]]]),
        "stoppers": (["pairs"], [], [[PAIRS], [[]]]),
        "filled": (["pairs", "inlets"], [], [[PAIRS, [1, 0]], [PAIRS, [2, 0, 1]], [PAIRS, []]]),
    },
    "times": {
        "checked_table": (["table"], ["BadTable"], [[TABLE], [[[0]]], [[[1, 2]] * 2]]),
        "reach": (["table"], ["BadTable"], [[TABLE], [[[0]]]]),
        "timetable": (["table"], ["BadTable"], [[TABLE], [[[0]]], [[[1, 2]] * 2]]),
    },
    "orders": {
        "checked_order": (["order"], ["BadOrder"], [[[2, 0, 1]], [[0]]]),
        "after": (["order", "other"], ["BadOrder"], [[[2, 0, 1], [0, 2, 1]], [[0], [0]]]),
        "way_back": (["order"], ["BadOrder"], [[[2, 0, 1]], [[0]]]),
        "rounds": (["order"], ["BadOrder"], [[[2, 0, 1, 3]], [[0]]]),
        "swaps": (["order"], ["BadOrder"], [[[2, 0, 1]], [[0]]]),
    },
    "nets": {
        "net_for": (["order"], ["BadOrder"], [[[1, 0]], [[2, 0, 3, 1]], [list(range(16))]]),
        "sent": (["net", "row"], [], [[1, [5, 6]], [NET, [5, 6, 7, 8]], [LARGE_NET, list(range(8))]]),
        "order_of": (["net"], [], [[0], [NET], [LARGE_NET]]),
        "switches": (["net"], [], [[0], [NET], [LARGE_NET]]),
        "depth": (["net"], [], [[0], [NET], [LARGE_NET]]),
        "lines": (["net"], [], [[0], [NET], [LARGE_NET]]),
    },
    "texts": {
        "shown": (["net"], [], [[0], [NET], [LARGE_NET]]),
        "read": (["text", "many"], ["BadText"], [["1", 2], ["101001", 4], ["01" * 28, 16]]),
    },
    "sorters": {
        "checked_sorters": (["sorters", "many"], ["BadSorters"], [[ROW, 3], [[], 1], [[(0, 1)] * 64, 8]]),
        "done": (["sorters", "row"], [], [[ROW, [3, 2, 1]], [[], [1]]]),
        "fault": (["sorters", "many"], ["BadSorters"], [[ROW, 3], [ROW, 4], [[], 8]]),
        "lean": (["sorters", "many"], ["BadSorters", "Unsound"], [[ROW, 3], [[], 1]]),
        "told_row": (["many"], [], [[1], [3], [8]]),
    },
    "ranks": {
        "rank": (["order"], ["BadOrder"], [[[2, 0, 1]], [[0]]]),
        "order_at": (["number", "many"], ["BadOrder"], [[4, 3], [0, 1], [0, 16]]),
        "next_order": (["order"], ["BadOrder"], [[[0, 2, 1]], [[0]], [list(range(16))]]),
    },
    "words": {
        "made": (["orders"], ["BadOrder"], [[ORDERS], [[[0]]]]),
        "word": (["orders", "goal"], ["BadOrder"], [[ORDERS, [3, 2, 1, 0]], [[[0]], [0]], [ORDERS, [0]]]),
        "makes": (["orders", "some"], ["BadOrder"], [[ORDERS, [0, 1, 1]], [ORDERS, []]]),
    },
}

# The methods of a hall with one call in it.
METHODS = {
    "put": (["inlet", "outlet"], ["NoEnd", "Busy"], [1, 1]),
    "drop": (["number"], ["NoCall"], [0]),
    "calls": ([], [], []),
    "load_in": (["inlet"], ["NoEnd"], [1]),
    "load_out": (["outlet"], ["NoEnd"], [1]),
}

REFUSALS = ["BadHall", "NoEnd", "Busy", "NoCall", "BadTable", "BadOrder", "BadText", "BadSorters", "Unsound"]

# Things of any kind, one instead of each argument.
ANYTHING = WRONG_KINDS + NO_ORDERS + [
    [[0]], [[1, 0]], [[0.0]], [[True]], [(0, 1)], [(0, True)], [(1, 0)], "101001", "0" * 56, 2, 3, 8, 2.0, 1.5,
    BEYOND_SHOWING, -BEYOND_SHOWING, object(), lambda: 0, [None], [[None]], [[]], ([0],), "\ud800",
]


def small_hall():
    hall = Hall(2, 2, 1)
    hall.put(0, 0)
    return hall


def each_function():
    for module, functions in INTERFACE.items():
        for name, told in functions.items():
            yield (getattr(importlib.import_module(f"switchhall.{module}"), name), *told)


def each_asking():
    for asked, names, refusals, askings in each_function():
        for arguments in askings:
            yield asked, arguments


def arguments_of(asked):
    return list(inspect.signature(asked).parameters)


class InterfaceTest(AskingCase):
    def test_functions_and_their_arguments(self):
        for asked, names, refusals, askings in each_function():
            self.assertTrue(inspect.isfunction(asked))
            self.assertEqual(arguments_of(asked), names, asked.__name__)

    def test_arguments_by_their_names(self):
        for asked, names, refusals, askings in each_function():
            for arguments in askings:
                self.assertEqual(asked(**dict(zip(names, arguments))), asked(*arguments))

    def test_a_hall(self):
        self.assertTrue(inspect.isclass(Hall))
        self.assertEqual(arguments_of(Hall), ["inlets", "outlets", "frames"])
        for name, (names, refusals, arguments) in METHODS.items():
            self.assertEqual(arguments_of(getattr(small_hall(), name)), names, name)
            getattr(small_hall(), name)(**dict(zip(names, arguments)))
        self.assertEqual(Hall(inlets=2, outlets=1, frames=1).put(inlet=1, outlet=0), (0, 0, []))

    def test_every_refusal_stands_for_itself(self):
        for name in REFUSALS:
            self.assertEqual(getattr(errors, name).__bases__, (errors.SwitchError,))
            self.assertEqual([other for other in REFUSALS if issubclass(getattr(errors, name), getattr(errors, other))],
                             [name])
        self.assertEqual(errors.SwitchError.__bases__, (ValueError,))


class ApartTest(AskingCase):
    def test_every_function(self):
        for asked, arguments in each_asking():
            with self.subTest(asked.__name__):
                self.assert_apart(asked, *arguments)

    def test_every_method(self):
        for name, (names, refusals, arguments) in METHODS.items():
            self.assert_apart(lambda *handed: getattr(small_hall(), name)(*handed), *arguments)

    def test_lists_that_a_hall_told(self):
        hall = small_hall()
        hall.calls().append("more")
        self.assertEqual(hall.calls(), [(0, 0, 0, 0)])
        hall.put(1, 1)[2].append(0)
        self.assertEqual(hall.calls(), [(0, 0, 0, 0), (1, 1, 1, 0)])

    def test_what_was_handed_in_may_be_changed_behind(self):
        for asked, arguments in each_asking():
            handed = copy.deepcopy(arguments)
            told = asked(*handed)
            kept = copy.deepcopy(told)
            for part in handed:
                if isinstance(part, list):
                    for inner in part:
                        if isinstance(inner, list):
                            inner.clear()
                    part.clear()
            with self.subTest(asked.__name__):
                self.assertEqual(told, kept)


class NothingKeptTest(AskingCase):
    def test_no_asking_changes_another(self):
        askings = list(each_asking())
        told = [asked(*arguments) for asked, arguments in askings]
        back = [asked(*arguments) for asked, arguments in askings[::-1]]
        self.assertEqual(back[::-1], told)

    def test_nothing_stays_in_the_modules(self):
        names = list(INTERFACE) + ["errors", "halls", "kinds"]
        modules = [importlib.import_module(f"switchhall.{name}") for name in names]

        def seen():
            return [{name: repr(value) for name, value in vars(module).items() if name != "__builtins__"}
                    for module in modules]

        before = seen()
        for asked, arguments in each_asking():
            asked(*arguments)
        small_hall().put(1, 1)
        self.assertEqual(seen(), before)

    def test_halls_stand_apart(self):
        one, other = small_hall(), small_hall()
        one.put(1, 1)
        one.drop(0)
        self.assertEqual(one.calls(), [(1, 1, 1, 0)])
        self.assertEqual(other.calls(), [(0, 0, 0, 0)])
        self.assertEqual(other.put(1, 1), (1, 0, []))


class AnyKindTest(AskingCase):
    def check_any_kind(self, asked, refusals, arguments):
        """Answered, or refused with what is told of it and nothing else."""
        allowed = [getattr(errors, name) for name in refusals]
        try:
            asked(*arguments)
        except errors.SwitchError as refused:
            self.assertIn(type(refused), allowed)

    def test_one_argument_of_any_kind(self):
        for asked, names, refusals, askings in each_function():
            if refusals:
                for place, arguments in itertools.product(range(len(names)), askings):
                    for wrong in ANYTHING:
                        handed = arguments[:place] + [wrong] + arguments[place + 1:]
                        with self.subTest(asked.__name__, place=place):
                            self.check_any_kind(asked, refusals, handed)

    def test_all_arguments_of_any_kind(self):
        for asked, names, refusals, askings in each_function():
            if refusals:
                for wrong in itertools.product(ANYTHING, repeat=len(names)):
                    self.check_any_kind(asked, refusals, wrong)

    def test_halls(self):
        for wrong in ANYTHING:
            for place in range(3):
                sizes = [2, 2, 1]
                sizes[place] = wrong
                self.check_any_kind(Hall, ["BadHall"], sizes)
            for name, (names, refusals, arguments) in METHODS.items():
                for place in range(len(names)):
                    handed = arguments[:place] + [wrong] + arguments[place + 1:]
                    self.check_any_kind(getattr(small_hall(), name), refusals, handed)

    def test_truths_are_no_numbers(self):
        for refusal, asked, arguments in [
                ("BadHall", Hall, [True, 2, 1]), ("BadHall", Hall, [2, True, 1]), ("BadHall", Hall, [2, 2, True]),
                ("NoEnd", small_hall().put, [True, 1]), ("NoEnd", small_hall().put, [1, True]),
                ("NoEnd", small_hall().load_in, [False]), ("NoEnd", small_hall().load_out, [True]),
                ("NoCall", small_hall().drop, [False])]:
            self.assert_refused(getattr(errors, refusal), asked, *arguments)
        for asked, wrong in self.askings_with_truths():
            with self.subTest(asked, wrong=wrong):
                module = next(module for module in INTERFACE if asked in INTERFACE[module])
                refusal = getattr(errors, INTERFACE[module][asked][1][0])
                self.assert_refused(refusal, getattr(importlib.import_module(f"switchhall.{module}"), asked), *wrong)

    def askings_with_truths(self):
        for asked in ["checked_table", "reach", "timetable"]:
            yield asked, [[[True]]]
            yield asked, [[[1, 2], [False, 3]]]
        for asked in ["checked_order", "way_back", "rounds", "swaps", "net_for", "rank", "next_order"]:
            yield asked, [[False, True]]
            yield asked, [[0, True]]
        for wrong in [[[0, True], [0, 1]], [[0, 1], [False, 1]]]:
            yield "after", wrong
            yield "word", [wrong, [0, 1]]
        for asked in ["checked_sorters", "fault", "lean"]:
            yield asked, [[(False, 1)], 2]
            yield asked, [[(0, True)], 2]
            yield asked, [[], True]
        for wrong in [[True, 3], [False, 1], [0, True]]:
            yield "order_at", wrong
        yield "read", ["0", True]
        yield "made", [[[False, True]]]
        yield "word", [[[1, 0]], [False, True]]
        yield "makes", [[[1, 0], [0, 1]], [True]]
        yield "makes", [[[1, False]], [0]]


if __name__ == "__main__":
    unittest.main()
