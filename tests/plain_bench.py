"""Benches as the document describes them, spelled out; and what tests of benches share."""

import copy

from pauseplaces.benches import Bench
from pauseplaces.errors import (
    AtEnd, AtStart, BadMove, BadName, BadShape, Full, Losing, NameTaken, NoName, NotDone, Part, Spent, TooMany)
from pauseplaces.programs import Program
from tests.cases import Case
from tests.plain import after_rows, counting, is_right, order_end, positions, row, row_loses, weave
from tests.things import ANYTHING

NONE = Program((2, 2), ())
FINE = counting(1, shape=(2, 2))
TWICE = counting(2, (1,), (2, 2))
OTHER = Program((2, 2), (row("add", 1, 1),) * 3, pauses=(1, 2))
MIXING = Program((2, 2), (row("mix", 1, 0, 1),))
LOSING = Program((2, 2), (row("add", 0, 1), row("set", 0, 0)))
NO_NAMES = [thing for thing in ANYTHING if thing != "add"] + [
    "A", "aB", "a1", "a b", " a", "a ", "a_b", "a-b", "a\n", "abcdefghi", "{", "`", ("a",), ["a"]]


def seen(bench):
    """All that a bench tells of itself."""
    where = bench.where()
    return (bench.shape, bench.base(), bench.state(), list(where.items()), bench.count(), len(bench),
            [(bench.program(name).rows, bench.program(name).pauses) for name in where],
            [bench.serial(name) for name in where], copy.deepcopy(bench.marks()))


def bench_with(*programs, shape=(2, 2), base=None):
    """A bench with programs called a, b, c, d."""
    bench = Bench(shape, base or (0,) * len(shape))
    for name, program in zip("abcd", programs):
        bench.let_in(name, program)
    return bench


def open_programs(bench):
    return [bench.program(name) for name in bench.where()]


class BenchCase(Case):
    def check_refused(self, bench, kind, call, *things, fields=None, **more):
        """A call raises exactly this error, and the bench is as before."""
        before = seen(bench)
        self.check_raises(kind, call, *things, fields=fields, **more)
        self.assertEqual(seen(bench), before)

    def check_part(self, bench, name, program, call, *things):
        """A call raises Part with two lists of names that part, and the bench is as before."""
        before = seen(bench)
        with self.assertRaises(Part) as held:
            call(*things)
        self.assertEqual(seen(bench), before)
        names = list(bench.where()) + [name]
        programs = open_programs(bench) + [program]
        counts = sorted(name for name, one in zip(names, programs) for _ in one.places[1:])
        ends = []
        for entries in (held.exception.one, held.exception.other):
            self.assertIs(type(entries), list)
            self.assertEqual(sorted(entries), counts)
            ends.append(weave(programs, bench.base(), [names.index(entry) for entry in entries])[-1])
        self.assertNotEqual(ends[0], ends[1])


class MethodsAlone:
    """A bench that has nothing but what the interface lists."""

    def __init__(self, bench):
        hidden = [bench]
        self.shape = bench.shape
        for word in ("let_in moves close take_back base state where program count serial set_pauses "
                     "set_count marks").split():
            setattr(self, word, getattr(bench, word))
        self.step = lambda name, *, times=1: bench.step(name, times=self.from_0(times))
        self.back = lambda name, *, times=1: bench.back(name, times=self.from_0(times))
        self.copy = lambda: MethodsAlone(hidden[0].copy())
        self.length = lambda: len(hidden[0])
        self.has = lambda x: x in hidden[0]

    def from_0(self, times):
        if times < 0:
            raise AssertionError("times is less than 0")
        return times

    def __len__(self):
        return self.length()

    def __contains__(self, x):
        return self.has(x)

    def __deepcopy__(self, memo):
        return self

    def __eq__(self, other):
        return seen(self) == seen(other)


class PlainBench:
    """A bench that keeps its open programs as dicts; what it refuses it returns as an error's class and fields."""

    def __init__(self, shape, state):
        self.shape, self.bottom, self.many, self.entries = shape, state, 0, []

    def find(self, name):
        found = [entry for entry in self.entries if entry["name"] == name]
        return found[0] if found and isinstance(name, str) else None

    def let_in(self, name, program):
        if not isinstance(name, str) or not 1 <= len(name) <= 8 or set(name) - set("abcdefghijklmnopqrstuvwxyz"):
            return BadName, {}
        if self.find(name):
            return NameTaken, {"name": name}
        if len(self.entries) == 4:
            return Full, {}
        if self.many == 30:
            return Spent, {}
        if program.shape != self.shape:
            return BadShape, {}
        if any(row_loses(self.shape, one) for one in program.rows):
            return Losing, {"index": 0}
        programs = [entry["program"] for entry in self.entries] + [program]
        if len(positions(programs)) > 400:
            return TooMany, {}
        if not is_right(programs, self.bottom):
            return Part, None
        self.entries.append({"name": name, "program": program, "at": 0, "serial": self.many})
        self.many += 1
        return None

    def move(self, name, by):
        entry = self.find(name)
        if entry is None:
            return NoName, {"name": name}
        if entry["at"] + by >= len(entry["program"].places):
            return AtEnd, {"name": name}
        if entry["at"] + by < 0:
            return AtStart, {"name": name}
        entry["at"] += by
        return None

    def moves(self, steps):
        before = copy.deepcopy(self.entries)
        for at, (name, way) in enumerate(steps):
            if self.move(name, way):
                self.entries = before
                return BadMove, {"index": at}
        return None

    def close(self, name):
        entry = self.find(name)
        if entry is None:
            return NoName, {"name": name}
        if entry["at"] != len(entry["program"].places) - 1:
            return NotDone, {"name": name}
        self.bottom = after_rows(self.shape, entry["program"].rows, self.bottom)
        self.entries.remove(entry)
        return None

    def take_back(self, name):
        entry = self.find(name)
        if entry is None:
            return NoName, {"name": name}
        self.entries.remove(entry)
        return None

    def seen(self):
        programs = [entry["program"] for entry in self.entries]
        places = [program.places[entry["at"]] for program, entry in zip(programs, self.entries)]
        # Backwards: each order leads to the state.
        state = order_end(programs, self.bottom, places, range(len(programs))[::-1])
        names = [entry["name"] for entry in self.entries]
        return (self.shape, self.bottom, state, list(zip(names, places)), self.many, len(names),
                [(program.rows, program.pauses) for program in programs],
                [entry["serial"] for entry in self.entries], [])
