"""Points 1 to 3 over the whole program: names of arguments, what is passed and what is returned."""

import copy
import importlib
import unittest

from pauseplaces.benches import Bench
from pauseplaces.programs import Program
from tests.plain import blocker, counting, example_programs, point_21_at_the_end, point_21_pauses, row
from tests.plain_bench import bench_with, FINE, NONE, OTHER, seen, TWICE
from tests.test_form import INTERFACE

P, Q = example_programs()
A, B = counting(3, (1, 2), (2, 2)), blocker(3, (1, 2))
ROW = row("mix", 0, 1, 1)
SHAPE, START, STARTS = (2, 2), (0, 1), [(0, 1), (0, 0), (1, 0)]
PRICES = ({1: 7}, {2: 3})
D, E = point_21_at_the_end()
UNLIKE = point_21_pauses((1, 2))
ZERO = (0, 0, 0)


def a_bench():
    bench = bench_with(TWICE, OTHER)
    bench.moves([("a", 1), ("b", 1), ("b", 1)])
    bench.marks().append({0: 0, 1: 3})
    return bench


# Each function with its arguments by name, in the sequence of the interface.
CALLS = {
    "shapes": [("is_shape", {"thing": SHAPE}), ("is_state", {"shape": SHAPE, "thing": START}),
               ("states", {"shape": SHAPE})],
    "rows": [("is_row", {"shape": SHAPE, "thing": ROW}), ("done", {"shape": SHAPE, "row": ROW, "state": START}),
             ("loses", {"shape": SHAPE, "row": ROW}), ("inverse", {"shape": SHAPE, "row": ROW}),
             ("joined", {"shape": SHAPE, "row": row("set", 0, 1)})],
    "scripts": [("read", {"shape": SHAPE, "text": "times 2\nadd 0 1\npause\nend"}), ("show", {"program": P})],
    "programs": [("Program", {"shape": SHAPE, "rows": (ROW, ROW), "pauses": (1,)}),
                 ("sum_of", {"one": P, "other": Q}), ("inverse_of", {"program": P}),
                 ("run", {"program": P, "state": START}), ("log", {"program": P, "state": START}),
                 ("joined_by", {"program": D})],
    "weavings": [("fault", {"programs": [P, Q], "weaving": [0, 1]}),
                 ("position", {"programs": [P, Q], "beginning": [0, 1]}),
                 ("woven", {"programs": [P, Q], "start": START, "beginning": [0, 1]}),
                 ("chain", {"programs": [P, Q], "one": [0, 0, 1], "other": [1, 0, 0]}),
                 ("weavings", {"programs": [P, Q]})],
    "grids": [("grid", {"programs": [FINE, OTHER], "start": START}), ("part", {"programs": [P, Q], "start": START}),
              ("walked", {"programs": [P, Q], "start": START, "walk": [(0, 1), (0, -1), (1, 1)]})],
    "starts": [("state_at", {"programs": [P, Q], "start": START, "places": (2, 0)}),
               ("orders_at", {"programs": [P, Q], "start": START, "places": (1, 1)}),
               ("greatest_starts", {"programs": [FINE, OTHER], "starts": STARTS}),
               ("left_out", {"programs": [P, Q], "starts": STARTS}),
               ("clashes", {"first": A, "second": B, "starts": STARTS})],
    "largest": [("largest_pairs", {"first": TWICE, "second": B, "starts": STARTS}),
                ("pair_table", {"first": TWICE, "second": B, "starts": STARTS}),
                ("largest_triples", {"first": A, "second": B, "starts": STARTS}),
                ("triple_table", {"first": A, "second": B, "starts": STARTS})],
    "wishes": [("must_go", {"first": TWICE, "second": B, "starts": STARTS}),
               ("least", {"first": TWICE, "second": B, "starts": STARTS, "prices": PRICES}),
               ("numbers", {"first": TWICE, "second": B, "starts": STARTS, "prices": PRICES}),
               ("fate", {"first": TWICE, "second": B, "starts": STARTS, "which": 0, "wish": 1, "prices": PRICES})],
    "losing": [("states_of", {"programs": [D, E], "start": (0,)}),
               ("on_the_way", {"programs": [D, E], "start": (0,)}),
               ("at_the_end", {"programs": UNLIKE, "start": ZERO})],
    "sequences": [("sequence_ends", {"programs": UNLIKE, "start": ZERO}),
                  ("unlike", {"programs": UNLIKE, "start": ZERO}),
                  ("way_to", {"programs": UNLIKE, "start": ZERO, "places": (3, 3), "state": (3, 0, 1)})],
    "rounds": [("round_states", {"programs": [P, Q], "start": START, "rounds": [0]}),
               ("whole_way", {"programs": [P, Q], "start": START, "rounds": [0, 1], "state": (1, 1)}),
               ("rounds_part", {"programs": [P, Q], "start": START, "rounds": [0]}),
               ("round_woven", {"programs": [P, Q], "start": START, "rounds": [1], "beginning": [1, 1, 0]})],
    "benches": [("Bench", {"shape": SHAPE, "state": START})],
    "granting": [("grants", {"bench": a_bench(), "program": blocker(4, (1, 2, 3))}),
                 ("let_in_with", {"bench": a_bench(), "name": "c", "program": TWICE}),
                 ("grant", {"bench": bench_with(counting(3, (), SHAPE)), "name": "a", "place": 2}),
                 ("give_up", {"bench": a_bench(), "name": "b", "place": 1})],
    "marks": [("mark", {"bench": a_bench()}), ("back_to", {"bench": a_bench(), "number": 0}),
              ("fork", {"bench": a_bench()})],
    "pages": [("page", {"bench": a_bench()}), ("read_page", {"text": "shape 2 2\nbase 0 1\ncount 3"})],
}
# What stands behind a "*".
BY_NAME_ALONE = ("pauses", "prices")
CHANGE_BENCHES = ("let_in_with", "grant", "give_up", "mark", "back_to")
METHODS = [
    ("let_in", {"name": "c", "program": TWICE}), ("step", {"name": "a", "times": 1}),
    ("back", {"name": "b", "times": 2}), ("moves", {"steps": [("a", 1), ("b", -1)]}), ("take_back", {"name": "a"}), ("program", {"name": "b"}),
    ("serial", {"name": "b"}), ("set_pauses", {"name": "b", "pauses": (2,)}), ("set_count", {"count": 9}),
    ("base", {}), ("state", {}), ("where", {}), ("count", {}), ("marks", {}), ("copy", {})]


def function(module, name):
    return getattr(importlib.import_module("pauseplaces." + module), name)


def told_by(call, *things, **more):
    """What a call returns, so that it can be compared."""
    found = call(*things, **more)
    if type(found).__name__ == "generator":
        return list(found)
    return seen(found) if isinstance(found, Bench) else found


def spoil(thing):
    """Empty all lists and dicts of a thing."""
    if isinstance(thing, (list, tuple)):
        for part in thing:
            spoil(part)
    if isinstance(thing, dict):
        for part in thing.values():
            spoil(part)
    if isinstance(thing, (list, dict)):
        thing.clear()


class InterfaceTest(unittest.TestCase):
    def test_every_function_is_here(self):
        for module, listed in INTERFACE.items():
            names = {name.split(".")[0] for name in listed}
            self.assertEqual({name for name, _ in CALLS[module]}, names)

    def test_by_position_and_by_name(self):
        for module, calls in CALLS.items():
            for name, things in calls:
                call = function(module, name)
                given = {word: thing for word, thing in things.items() if word not in BY_NAME_ALONE}
                alone = {word: thing for word, thing in things.items() if word in BY_NAME_ALONE}
                expected = told_by(call, *copy.deepcopy(list(given.values())), **alone)
                self.assertEqual(told_by(call, **copy.deepcopy(things)), expected, name)
                backwards = copy.deepcopy(dict(list(things.items())[::-1]))
                self.assertEqual(told_by(call, **backwards), expected, name)
                if alone:
                    with self.assertRaises(TypeError):
                        call(*copy.deepcopy(list(things.values())))

    def test_nothing_that_is_passed_is_modified(self):
        for module, calls in CALLS.items():
            for name, things in calls:
                if name not in CHANGE_BENCHES:
                    passed = copy.deepcopy(things)
                    told_by(function(module, name), **passed)
                    self.assertEqual(passed, things, name)

    def test_what_is_returned_is_new(self):
        for module, calls in CALLS.items():
            for name, things in calls:
                if name not in CHANGE_BENCHES:
                    call = function(module, name)
                    before = copy.deepcopy(told_by(call, **things))
                    found = call(**things)
                    self.assertNotEqual(before, None, name)
                    spoil(found)
                    self.assertEqual(told_by(call, **things), before, name)

    def test_what_was_passed_may_be_changed(self):
        for module, calls in CALLS.items():
            for name, things in calls:
                passed = copy.deepcopy(things)
                found = told_by(function(module, name), **passed)
                before = copy.deepcopy(found)
                for thing in passed.values():
                    spoil(thing)
                self.assertEqual(found, before, name)

    def test_methods(self):
        for name, things in METHODS:
            benches = [a_bench(), a_bench(), a_bench()]
            given = [thing for word, thing in things.items() if word != "times"]
            times = {"times": things["times"]} if "times" in things else {}
            told = [told_by(getattr(benches[0], name), *given, **times),
                    told_by(getattr(benches[1], name), **things),
                    told_by(getattr(benches[2], name), **dict(list(things.items())[::-1]))]
            self.assertEqual(told[1:], told[:1] * 2, name)
            self.assertEqual([seen(bench) for bench in benches[1:]], [seen(benches[0])] * 2, name)

    def test_what_methods_return_is_new(self):
        bench = a_bench()
        before = seen(bench)
        for name, things in METHODS:
            if name in ("base", "state", "where", "count", "program", "serial"):
                spoil(getattr(bench, name)(**things))
                self.assertEqual(seen(bench), before, name)
        spoil(bench.copy().where())
        spoil(bench.copy().marks())
        self.assertEqual(seen(bench), before)
        spoil(bench.marks())
        self.assertEqual(bench.marks(), [])

    def test_methods_keep_nothing(self):
        bench, steps = a_bench(), [("a", 1)]
        program = counting(2, (1,), SHAPE)
        bench.moves(steps)
        bench.close("a")
        bench.let_in("c", program)
        before = seen(bench)
        steps.clear()
        program.rows, program.pauses, program.places = (), (), (0,)
        self.assertEqual(seen(bench), before)

    def test_operators(self):
        self.assertEqual([len(P), 1 in P, 2 in P, P == Q, P == Program(P.shape, P.rows, pauses=P.pauses)],
                         [2, True, False, False, True])
        bench = a_bench()
        self.assertEqual([len(bench), "a" in bench, "c" in bench, bench == a_bench(), bench == bench_with(NONE)],
                         [2, True, False, True, False])


if __name__ == "__main__":
    unittest.main()
