import copy
import unittest
from itertools import product

from pauseplaces.errors import BadState, Losing, TooMany
from pauseplaces.programs import Program, sum_of
from pauseplaces.starts import clashes, greatest_starts, left_out, orders_at, state_at
from tests.cases import Case
from tests.plain import (
    all_states, blocker, clash_set, counting, example_programs, is_right, order_end, order_ends,
    patterned, positions, rng, row, some_pattern, some_program, some_programs, some_state,
    three_programs)
from tests.things import ANYTHING

NONE = Program((2, 2), ())
LOSING = Program((2, 2), (row("add", 0, 1), row("set", 0, 0)))
FINE = counting(1, shape=(2, 2))
SHAPES = [(2,), (2, 2), (3, 2), (2, 2, 2), (4, 2, 2)]
MOST = [counting(9, range(1, 9), (2, 2))] * 2 + [counting(3, (1, 2), (2, 2))]
TOO_MANY = [counting(8, range(1, 8), (2, 2))] * 2 + [counting(4, (1, 2, 3), (2, 2))]


class PositionsTest(Case):
    def check(self, programs, start, places):
        before = copy.deepcopy((programs, start, places))
        state, orders = state_at(programs, start, places), orders_at(programs, start, places)
        self.assertEqual((programs, start, places), before)
        ends = order_ends(programs, start, places)
        if len(ends) == 1:
            self.assertEqual((state, orders), (min(ends), None))
            return "goes"
        self.assertIsNone(state)
        self.assertIs(type(orders), tuple)
        for order in orders:
            self.assertIs(type(order), tuple)
            self.assertEqual(sorted(order), list(range(len(programs))))
        one, other = [order_end(programs, start, places, order) for order in orders]
        self.assertNotEqual(one, other)
        return "clashes"

    def test_all_numbers_of_rows(self):
        source = rng(50)
        seen = []
        for _ in range(150):
            shape = source.choice(SHAPES)
            many = source.randint(1, 4)
            programs = some_programs(source, shape, many, 6 - many, most_pauses=1)
            start = some_state(source, shape)
            for places in product(*[range(len(program) + 1) for program in programs]):
                seen.append(self.check(programs, start, places))
        self.assertGreater(min(seen.count("goes"), seen.count("clashes")), 200)

    def test_place_0_and_the_ends(self):
        P, Q = example_programs()
        for places in product((0, 1, 2), (0, 1)):
            self.assertEqual(self.check([P, Q], (0, 0), places),
                             "clashes" if places in ((1, 1), (2, 1)) else "goes")
        self.assertEqual(state_at([P, Q], (0, 1), (0, 0)), (0, 1))
        for programs in [three_programs(), three_programs()[::-1]]:
            self.assertEqual(self.check(programs, (0, 0, 0), (1, 1, 1)), "clashes")
            self.assertEqual(self.check(programs, (0, 0, 0), (1, 0, 1)), "goes")

    def test_without_programs(self):
        self.assertEqual(self.check([], (0, 1), ()), "goes")
        self.assertEqual(self.check([NONE], (0, 1), (0,)), "goes")
        self.assertEqual(state_at([], (0, 1), ()), (0, 1))

    def test_no_too_many(self):
        for programs in (TOO_MANY, [counting(9, range(1, 9), (2, 2))] * 4):
            places = tuple(len(program) - 1 for program in programs)
            self.assertEqual(self.check(programs, (0, 0), places), "goes")
        programs = TOO_MANY + [blocker(1)]
        self.assertEqual(self.check(programs, (0, 0), (3, 0, 0, 1)), "clashes")

    def test_errors(self):
        for call in (state_at, orders_at):
            self.check_raises(Losing, call, [FINE, LOSING, LOSING], 7, (0, 0, 0), fields={"index": 1})
            self.check_raises(Losing, call, [LOSING], (0, 0), (0,), fields={"index": 0})
            for thing in ANYTHING + [(2, 0), (0, True), (0, 0, 0)]:
                if thing != (0, 0):
                    self.check_raises(BadState, call, [FINE, NONE], thing, (0, 0))

    def test_by_name(self):
        self.assertEqual(state_at(places=(1,), start=(0, 0), programs=[FINE]), (1, 0))
        self.assertIsNone(orders_at(places=(1,), start=(0, 0), programs=[FINE]))


class StartsTest(Case):
    def check_evidence(self, programs, start, evidence):
        self.assertIs(type(evidence), tuple)
        places, one, other = evidence
        self.assertIn(places, positions(programs))
        for order in (one, other):
            self.assertIs(type(order), tuple)
            self.assertEqual(sorted(order), list(range(len(programs))))
        self.assertNotEqual(order_end(programs, start, places, one),
                            order_end(programs, start, places, other))

    def check(self, programs, starts):
        before = copy.deepcopy((programs, starts))
        greatest, left = greatest_starts(programs, starts), left_out(programs, starts)
        self.assertEqual((programs, starts), before)
        self.assertIs(type(greatest), list)
        self.assertEqual(greatest, sorted(start for start in starts if is_right(programs, start)))
        self.assertIs(type(left), dict)
        self.assertEqual(sorted(left), sorted(start for start in starts if start not in greatest))
        for start, evidence in left.items():
            self.check_evidence(programs, start, evidence)
        return len(greatest), len(left)

    def test_some_starts_in_any_sequence(self):
        source = rng(51)
        counts = [0, 0]
        for _ in range(120):
            shape = source.choice(SHAPES)
            many = source.randint(0, 4)
            programs = some_programs(source, shape, many, 4 if many < 4 else 2, most_pauses=2)
            starts = all_states(shape)
            starts = source.sample(starts, source.randint(0, len(starts)))
            right, left = self.check(programs, starts)
            counts = [counts[0] + right, counts[1] + left]
        self.assertGreater(min(counts), 80)

    def test_all_and_none(self):
        states = all_states((2, 2))
        self.assertEqual(self.check([FINE, FINE], states[::-1]), (4, 0))
        self.assertEqual(self.check([FINE, blocker(1)], states[::-1]), (0, 4))
        self.assertEqual(self.check([FINE, blocker(1)], []), (0, 0))
        self.assertEqual(self.check([], states), (4, 0))
        self.assertEqual(self.check([NONE], states), (4, 0))

    def test_three_of_which_each_two_go(self):
        states = all_states((2, 2, 2))
        self.check(three_programs(), states)
        self.assertNotIn((0, 0, 0), greatest_starts(three_programs(), states))
        self.assertEqual(left_out(three_programs(), [(0, 0, 0)])[(0, 0, 0)][0], (1, 1, 1))

    def test_number_of_positions(self):
        self.assertEqual(greatest_starts(MOST, [(1, 0), (0, 0)]), [(0, 0), (1, 0)])
        for call in (greatest_starts, left_out):
            self.check_raises(TooMany, call, TOO_MANY + [LOSING], [])
            self.check_raises(Losing, call, [FINE, NONE, LOSING, LOSING], [], fields={"index": 2})

    def test_new_objects(self):
        starts = [(0, 0)]
        found = greatest_starts([FINE], starts)
        found.append(None)
        left_out([FINE, blocker(1)], starts).clear()
        self.assertEqual(starts, [(0, 0)])
        self.assertEqual(greatest_starts([FINE], starts), [(0, 0)])
        self.assertEqual(len(left_out([FINE, blocker(1)], starts)), 1)

    def test_by_name(self):
        self.assertEqual(greatest_starts(starts=[(0, 0)], programs=[FINE]), [(0, 0)])
        self.assertEqual(left_out(starts=[(0, 0)], programs=[FINE]), {})


class ClashesTest(Case):
    def check(self, first, second, starts):
        before = copy.deepcopy((first, second, starts))
        found = clashes(first, second, starts)
        self.assertEqual((first, second, starts), before)
        self.assertIs(type(found), list)
        self.assertEqual(found, sorted(clash_set(first, second, starts)))
        return found

    def test_some_programs(self):
        source = rng(52)
        many = 0
        for _ in range(150):
            shape = source.choice(SHAPES)
            first, second = [some_program(source, shape, 8, most_pauses=5) for _ in range(2)]
            starts = all_states(shape)
            starts = source.sample(starts, source.randint(0, min(3, len(starts))))
            many += len(self.check(first, second, starts))
        self.assertGreater(many, 200)

    def test_patterns(self):
        source = rng(53)
        for wishes in [(0, 0), (1, 3), (3, 3), (8, 8)]:
            patterns = [some_pattern(source, wishes, ends=True, chance=0.2) for _ in range(2)]
            first, second = patterned(wishes, patterns)
            both = []
            for s, pattern in enumerate(patterns):
                expected = sorted((first.places[i + 1], second.places[j + 1]) for i, j in pattern)
                self.assertEqual(self.check(first, second, [(0, 0, s)]), expected)
                both += expected
            self.assertEqual(self.check(first, second, [(0, 0, 1), (0, 0, 0)]), sorted(set(both)))

    def test_ends(self):
        self.assertEqual(self.check(FINE, blocker(1), [(0, 0)]), [(1, 1)])
        self.assertEqual(self.check(counting(3, (1, 2), (2, 2)), blocker(1), [(1, 1)]), [(1, 1), (3, 1)])

    def test_no_starts_and_no_rows(self):
        self.assertEqual(self.check(FINE, blocker(1), []), [])
        self.assertEqual(self.check(NONE, blocker(1), [(0, 0)]), [])
        self.assertEqual(self.check(NONE, NONE, [(0, 0)]), [])

    def test_losing(self):
        self.check_raises(Losing, clashes, LOSING, FINE, [(0, 0)], fields={"index": 0})
        self.check_raises(Losing, clashes, FINE, LOSING, [], fields={"index": 1})
        self.check_raises(Losing, clashes, LOSING, LOSING, [], fields={"index": 0})

    def test_new_lists(self):
        clashes(FINE, blocker(1), [(0, 0)]).clear()
        self.assertEqual(clashes(FINE, blocker(1), [(0, 0)]), [(1, 1)])

    def test_by_name(self):
        self.assertEqual(clashes(starts=[(0, 0)], second=blocker(1), first=FINE), [(1, 1)])

    def test_example(self):
        P, Q = example_programs()
        PP = sum_of(P, P)
        self.assertEqual([state_at([PP, Q], (0, 0), (3, 1)), clashes(PP, Q, [(0, 0)])],
                         [(1, 0), [(1, 1), (2, 1)]])


if __name__ == "__main__":
    unittest.main()
