"""Point 3: each call tells of its lists as they are at that call."""

import copy
import unittest

from pauseplaces.grids import grid, part, walked
from pauseplaces.largest import largest_pairs, largest_triples, pair_table, triple_table
from pauseplaces.losing import at_the_end, on_the_way, states_of
from pauseplaces.programs import Program
from pauseplaces.rounds import round_states, round_woven, rounds_part, whole_way
from pauseplaces.sequences import sequence_ends, unlike, way_to
from pauseplaces.starts import clashes, greatest_starts, left_out, orders_at, state_at
from pauseplaces.weavings import chain, fault, position, weavings, woven
from pauseplaces.wishes import fate, least, must_go, numbers
from tests.plain import all_states, blocker, counting, row

FINE = counting(1, shape=(2, 2))
TWICE = counting(2, (1,), (2, 2))
OTHER = Program((2, 2), (row("mix", 0, 1, 1),))
# What the list of programs holds at one call after the other.
CONTENTS = [
    [FINE, FINE], [FINE, blocker(1)], [TWICE, blocker(2, (1,))], [FINE, OTHER], [OTHER, blocker(1)],
    [TWICE, OTHER, blocker(1)], [FINE, FINE]]
START = (0, 1)
# Each function with what it takes behind the list of programs.
OF_PROGRAMS = [
    (fault, [[0, 1]]), (position, [[0, 1]]), (woven, [START, [0, 1]]), (grid, [START]), (part, [START]),
    (walked, [START, [(0, 1), (1, 1), (0, -1)]]), (state_at, [START, (1, 1, 0)]), (orders_at, [START, (1, 1, 0)]),
    (greatest_starts, [all_states((2, 2))]), (left_out, [all_states((2, 2))]), (states_of, [START]),
    (on_the_way, [START]), (at_the_end, [START]), (sequence_ends, [START]), (unlike, [START]),
    (way_to, [START, (1, 1), (1, 0)]), (round_states, [START, [0, 1]]), (whole_way, [START, [0, 1], (1, 0)]),
    (rounds_part, [START, [0, 1]]), (round_woven, [START, [0, 1], [0, 1, 0]]),
]
# What the list of starts holds at one call after the other: in turn the ends clash from none.
STARTS = [[], [(1, 1)], [(1, 1), (0, 1)], [(0, 1)], [(0, 0), (0, 1), (1, 1)], [(1, 0)], []]
PAIR = (counting(4, (1, 2, 3), (2, 2)), blocker(3, (1, 2)))
OF_STARTS = [
    (clashes, PAIR, []), (largest_pairs, PAIR, []), (pair_table, PAIR, []), (largest_triples, PAIR, []),
    (triple_table, PAIR, []), (must_go, PAIR, []), (least, PAIR, []), (numbers, PAIR, []), (fate, PAIR, [0, 1]),
    (greatest_starts, ([OTHER, blocker(1)],), []), (left_out, ([OTHER, blocker(1)],), []),
]


class InPlaceTest(unittest.TestCase):
    def check(self, call, before, contents, behind):
        """Calls with one list, changed in place, tell the same as calls with a list of their own."""
        changed, told, expected = [], [], []
        for content in contents:
            changed[:] = content
            told.append(call(*before, changed, *behind))
            self.assertEqual(changed, content)
            expected.append(copy.deepcopy(call(*before, list(content), *behind)))
            self.assertEqual(told[-1], expected[-1], call)
        changed.clear()
        # What was returned before is still what it was.
        self.assertEqual(told, expected, call)
        return expected

    def test_lists_of_programs(self):
        for call, behind in OF_PROGRAMS:
            # With the third program (1, 1) is no position and [0, 1] is no whole weaving.
            contents = [programs if call not in (state_at, orders_at) else programs + [FINE] * (3 - len(programs))
                        for programs in CONTENTS]
            found = self.check(call, [], contents, behind)
            self.assertEqual(found[0], found[-1])
            self.assertNotEqual(found, [found[0]] * len(found), call)

    def test_lists_of_starts(self):
        for call, before, behind in OF_STARTS:
            found = self.check(call, before, STARTS, behind)
            self.assertEqual(found[0], found[-1])
            if call is not must_go:
                self.assertNotEqual(found, [found[0]] * len(found), call)

    def test_chains_and_weavings(self):
        one, other = [0, 1], [1, 0]
        found = chain([FINE, FINE], one, other)
        one.reverse()
        self.assertEqual(found, [[0, 1], [1, 0]])
        self.assertEqual(chain([FINE, FINE], one, other), [[1, 0]])
        programs = [FINE, FINE]
        all_of_them = weavings(programs)
        first = next(all_of_them)
        programs.append(FINE)
        self.assertEqual([first] + list(all_of_them), [[0, 1], [1, 0]])
        self.assertEqual(len(list(weavings(programs))), 6)

    def test_other_lists(self):
        weaving, walk, rounds = [0, 1], [(0, 1)], [0]
        self.assertEqual(woven([FINE, FINE], (0, 0), weaving), [(0, 0), (1, 0), (0, 0)])
        weaving.pop()
        self.assertEqual(woven([FINE, FINE], (0, 0), weaving), [(0, 0), (1, 0)])
        self.assertEqual(walked([FINE], (0, 0), walk), [(0, 0), (1, 0)])
        walk.append((0, -1))
        self.assertEqual(walked([FINE], (0, 0), walk), [(0, 0), (1, 0), (0, 0)])
        self.assertEqual(round_states([FINE], (0, 0), rounds), [(0, 0), (1, 0)])
        rounds.clear()
        self.assertEqual(round_states([FINE], (0, 0), rounds), [(0, 0)])


if __name__ == "__main__":
    unittest.main()
