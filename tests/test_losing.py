import copy
import unittest

from pauseplaces.errors import BadState, TooMany
from pauseplaces.grids import grid, part
from pauseplaces.losing import at_the_end, on_the_way, states_of
from pauseplaces.programs import Program
from tests.cases import Case
from tests.plain import (
    all_weavings, blocker, choices, counting, point_21_at_the_end, point_21_pauses, positions, row,
    stretch_rows, after_rows, weave, woven_states)
from tests.things import ANYTHING

NONE = Program((2, 2), ())
FINE = counting(1, shape=(2, 2))
CLEAR = Program((2, 2), (row("set", 0, 0), row("set", 1, 0)), pauses=(1,))
# 10 * 10 * 4 and 9 * 9 * 5 positions.
MOST = [counting(9, range(1, 9))] * 2 + [counting(3, (1, 2))]
TOO_MANY = [counting(8, range(1, 8))] * 2 + [counting(4, (1, 2, 3))]


class LosingCase(Case):
    def check_errors(self, call, *rest):
        """TooMany, then BadState; programs may lose."""
        self.check_raises(TooMany, call, TOO_MANY, 7, *rest)
        self.check_raises(TooMany, call, TOO_MANY, [(0,)], *rest)
        for thing in ANYTHING + [(2, 0), (0, True), (True, 0), (0, 0, 0), (-1, 0), [0, 0]]:
            if thing != (0, 0):
                self.check_raises(BadState, call, [FINE, NONE], thing, *rest)
                self.check_raises(BadState, call, [CLEAR], thing, *rest)


class StatesTest(LosingCase):
    def check(self, programs, start):
        before = copy.deepcopy((programs, start))
        found = states_of(programs, start)
        self.assertEqual((programs, start), before)
        self.assertIs(type(found), dict)
        expected = woven_states(programs, start)
        self.assertEqual(found, {places: tuple(sorted(expected[places])) for places in expected})

    def test_against_all_weavings(self):
        for losing in (False, True):
            for programs, start in choices(70, 120, losing=losing):
                self.check(programs, start)

    def test_without_programs(self):
        self.assertEqual(states_of([], (0, 1)), {(): ((0, 1),)})
        self.assertEqual(states_of([NONE, NONE], (0, 1)), {(0, 0): ((0, 1),)})
        self.assertEqual(states_of([CLEAR], (1, 1)), {(0,): ((1, 1),), (1,): ((0, 1),), (2,): ((0, 0),)})

    def test_a_position_that_clashes(self):
        programs = [counting(1, shape=(2, 2)), blocker(1)]
        self.assertEqual(states_of(programs, (0, 0))[(1, 1)], ((1, 0), (1, 1)))
        self.assertEqual(states_of(programs[::-1], (0, 0))[(1, 1)], ((1, 0), (1, 1)))

    def test_states_of_beginnings_and_not_of_orders_alone(self):
        # The orders of the ends lead to (3, 0, 0) alone.
        programs = point_21_pauses((1, 2))
        self.assertEqual(states_of(programs, (0, 0, 0))[(3, 3)], ((3, 0, 0), (3, 0, 1)))

    def test_number_of_positions(self):
        self.assertEqual(len(states_of(MOST, (0,))), 400)
        shape = (8, 8)
        mixing = [Program(shape, (row("mix", i, 1 - i, 3), row("add", 1 - i, 1)) * 5, pauses=tuple(range(1, 9)))
                  for i in (0, 1)]
        clear = Program(shape, (row("set", 0, 5), row("copy", 1, 0), row("scale", 0, 2)), pauses=(1, 2))
        found = states_of(mixing + [clear], (1, 2))
        self.assertEqual(list(map(len, (found, positions(mixing + [clear])))), [400, 400])
        self.check_step_by_step(mixing + [clear], (1, 2), found)

    def check_step_by_step(self, programs, start, found):
        """Each state of a position comes from one of a position one stretch ahead, and none is missing."""
        expected = {(0,) * len(programs): {start}}
        for places in positions(programs)[1:]:
            expected[places] = set()
            for k, place in enumerate(places):
                if place > 0:
                    at = programs[k].places.index(place) - 1
                    ahead = places[:k] + (programs[k].places[at],) + places[k + 1:]
                    rows = stretch_rows(programs[k], at)
                    expected[places] |= {after_rows(programs[k].shape, rows, s) for s in expected[ahead]}
        self.assertEqual(found, {places: tuple(sorted(expected[places])) for places in expected})

    def test_new_dicts(self):
        states_of([FINE], (0, 0)).clear()
        self.assertEqual(states_of([FINE], (0, 0)), {(0,): ((0, 0),), (1,): ((1, 0),)})

    def test_errors(self):
        self.check_errors(states_of)

    def test_by_name(self):
        self.assertEqual(states_of(start=(0, 1), programs=[NONE]), {(0,): ((0, 1),)})

    def test_example(self):
        D, E = point_21_at_the_end()
        self.assertEqual([at_the_end([D, E], (0,)), states_of([D, E], (0,))[(1, 1)]], [None, ((0,), (1,))])


class AlikeTest(LosingCase):
    def check_pair(self, found, programs, start, expected):
        """Two beginnings with one position that lead to different states."""
        self.assertIs(type(found), tuple)
        ends = []
        for entries in found:
            self.assertIs(type(entries), list)
            self.assertIn(entries, [weaving[:len(entries)] for weaving in all_weavings(programs)])
            ends.append(weave(programs, start, entries)[-1])
        self.assertEqual(sorted(found[0]), sorted(found[1]))
        self.assertNotEqual(ends[0], ends[1])
        places = tuple(program.places[found[0].count(k)] for k, program in enumerate(programs))
        self.assertGreater(len(expected[places]), 1)
        return places

    def check(self, programs, start):
        before = copy.deepcopy((programs, start))
        way, end = on_the_way(programs, start), at_the_end(programs, start)
        self.assertEqual((programs, start), before)
        expected = woven_states(programs, start)
        last = tuple(len(program) for program in programs)
        self.assertEqual(way is None, all(len(states) == 1 for states in expected.values()))
        self.assertEqual(end is None, len(expected[last]) == 1)
        if way is not None:
            self.check_pair(way, programs, start, expected)
        if end is not None:
            self.assertEqual(self.check_pair(end, programs, start, expected), last)
        return way is None, end is None

    def test_some_choices(self):
        seen = [self.check(programs, start) for programs, start in choices(71, 900, losing=True)]
        for told in [(True, True), (False, True), (False, False)]:
            self.assertGreater(seen.count(told), 5)
        self.assertEqual(seen.count((True, False)), 0)

    def test_programs_that_do_not_lose(self):
        for programs, start in choices(72, 120, losing=False):
            told = self.check(programs, start)[0]
            self.assertEqual(told, grid(programs, start) is not None)
            self.assertEqual(told, part(programs, start) is None)

    def test_first_example_of_point_21(self):
        for programs in (point_21_at_the_end(), point_21_at_the_end()[::-1]):
            self.assertEqual(self.check(programs, (0,)), (False, True))

    def test_second_example_of_point_21(self):
        start = (0, 0, 0)
        for pauses, told in [((), True), ((1,), True), ((2,), True), ((1, 2), False)]:
            programs = point_21_pauses(pauses)
            self.assertEqual(self.check(programs, start)[1], told)
            self.assertIn((3, 0, 0), states_of(programs, start)[(3, 3)])
        found = at_the_end(point_21_pauses((1, 2)), start)
        ends = [weave(point_21_pauses((1, 2)), start, weaving)[-1] for weaving in found]
        self.assertEqual(sorted(ends), [(3, 0, 0), (3, 0, 1)])
        self.assertIn([0, 1, 0, 1, 0], found)

    def test_without_programs(self):
        for programs in ([], [NONE], [NONE] * 4, [CLEAR], [NONE, CLEAR]):
            self.assertEqual(self.check(programs, (1, 1)), (True, True))

    def test_one_program_several_times(self):
        P = Program((2, 2), (row("mix", 0, 1, 1), row("set", 1, 1)), pauses=(1,))
        self.assertEqual(self.check([P] * 2, (0, 0)), (False, False))
        self.assertEqual(self.check([CLEAR] * 3, (1, 1)), (True, True))

    def test_number_of_positions(self):
        for call in (on_the_way, at_the_end):
            self.assertIsNone(call(MOST, (0,)))

    def test_new_lists(self):
        programs = [FINE, blocker(1)]
        for call in (on_the_way, at_the_end):
            before = copy.deepcopy(call(programs, (0, 0)))
            for entries in call(programs, (0, 0)):
                entries.clear()
            self.assertEqual(call(programs, (0, 0)), before)

    def test_errors(self):
        self.check_errors(on_the_way)
        self.check_errors(at_the_end)

    def test_by_name(self):
        self.assertIsNone(on_the_way(start=(0, 0), programs=[FINE]))
        self.assertIsNone(at_the_end(start=(0, 0), programs=[FINE]))


if __name__ == "__main__":
    unittest.main()
