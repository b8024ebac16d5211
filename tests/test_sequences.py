import copy
import unittest
from itertools import permutations

from pauseplaces.errors import BadState, TooMany
from pauseplaces.programs import Program
from pauseplaces.sequences import sequence_ends, unlike, way_to
from tests.cases import Case
from tests.plain import (
    all_states, all_weavings, beginning_position, blocker, choices, counting, order_end, point_21_at_the_end,
    point_21_pauses, positions, row, weave, woven_states)
from tests.things import ANYTHING

NONE = Program((2, 2), ())
FINE = counting(1, shape=(2, 2))
CLEAR = Program((2, 2), (row("set", 0, 0), row("set", 1, 0)), pauses=(1,))
# 10 * 10 * 4 and 9 * 9 * 5 positions.
MOST = [counting(9, range(1, 9))] * 2 + [counting(3, (1, 2))]
TOO_MANY = [counting(8, range(1, 8))] * 2 + [counting(4, (1, 2, 3))]
# From (0, 0) a weaving ends in (0, 0) like one order, in (1, 1) like the other one, or in (1, 0).
EACH_ORDER = [Program((2, 2), (row("add", 0, 1, when=((1, 0),)), row("add", 0, 1, when=((1, 0),))), pauses=(1,)),
              Program((2, 2), (row("add", 1, 1, when=((0, 1),)),))]


def order_states(programs, start):
    """The states in which orders of the whole programs end."""
    last = [len(program) for program in programs]
    return {order_end(programs, start, last, order) for order in permutations(range(len(programs)))}


def some_choices(seed, many):
    return choices(seed, many, losing=True) + choices(seed + 1, many // 2, losing=False)


class SequenceCase(Case):
    def check_errors(self, call, *rest):
        """TooMany, then BadState; programs may lose."""
        self.check_raises(TooMany, call, TOO_MANY, 7, *rest)
        for thing in ANYTHING + [(2, 0), (0, True), (True, 0), (0, 0, 0), (-1, 0)]:
            if thing != (0, 0):
                self.check_raises(BadState, call, [FINE, NONE], thing, *rest)
                self.check_raises(BadState, call, [CLEAR], thing, *rest)


class EndsTest(SequenceCase):
    def check(self, programs, start):
        before = copy.deepcopy((programs, start))
        found = sequence_ends(programs, start)
        self.assertEqual((programs, start), before)
        self.assertIs(type(found), dict)
        self.assertEqual(set(found), order_states(programs, start))
        last = [len(program) for program in programs]
        for state, order in found.items():
            self.assertIs(type(order), tuple)
            self.assertEqual(sorted(order), list(range(len(programs))))
            self.assertEqual(order_end(programs, start, last, order), state)
        return len(found)

    def test_against_all_orders(self):
        seen = [self.check(programs, start) for programs, start in some_choices(80, 150)]
        for many in (1, 2, 3):
            self.assertGreater(seen.count(many), 3)

    def test_without_programs(self):
        self.assertEqual(sequence_ends([], (0, 1)), {(0, 1): ()})
        self.assertEqual(sequence_ends([NONE], (0, 1)), {(0, 1): (0,)})
        self.assertEqual(self.check([NONE] * 4, (0, 1)), 1)

    def test_whole_programs(self):
        self.assertEqual(sequence_ends([CLEAR], (1, 1)), {(0, 0): (0,)})
        self.assertEqual(sequence_ends(EACH_ORDER, (0, 0)), {(0, 0): (0, 1)})
        self.assertEqual(sequence_ends([FINE, blocker(1)], (0, 0)), {(1, 0): (0, 1), (1, 1): (1, 0)})

    def test_number_of_positions(self):
        self.assertEqual(self.check(MOST, (0,)), 1)

    def test_new_dicts(self):
        sequence_ends([FINE], (0, 0)).clear()
        self.assertEqual(sequence_ends([FINE], (0, 0)), {(1, 0): (0,)})

    def test_errors(self):
        self.check_errors(sequence_ends)

    def test_by_name(self):
        self.assertEqual(sequence_ends(start=(0, 1), programs=[]), {(0, 1): ()})


class UnlikeTest(SequenceCase):
    def check(self, programs, start):
        before = copy.deepcopy((programs, start))
        found = unlike(programs, start)
        self.assertEqual((programs, start), before)
        ends = woven_states(programs, start)[tuple(len(program) for program in programs)]
        like = order_states(programs, start)
        self.assertEqual(found is None, ends <= like)
        if found is not None:
            self.assertIs(type(found), list)
            self.assertIn(found, all_weavings(programs))
            self.assertNotIn(weave(programs, start, found)[-1], like)
        return found is None, len(like)

    def test_some_choices(self):
        seen = [self.check(programs, start) for programs, start in some_choices(82, 500)]
        told = [one for one, _ in seen]
        self.assertGreater(min(told.count(True), told.count(False)), 20)
        # Like some sequence, though not always like the same one.
        self.assertGreater(len([True for one, many in seen if one and many > 1]), 5)

    def test_different_orders(self):
        self.assertEqual(self.check([FINE, blocker(1)], (0, 0)), (True, 2))

    def test_unlike_though_all_orders_end_alike(self):
        self.assertEqual(self.check(EACH_ORDER, (0, 0)), (False, 1))
        self.assertEqual(unlike(EACH_ORDER, (0, 0)), [0, 1, 0])

    def test_examples_of_point_21(self):
        self.assertEqual(self.check(point_21_at_the_end(), (0,)), (True, 1))
        for pauses, told in [((), True), ((1,), True), ((2,), True), ((1, 2), False)]:
            self.assertEqual(self.check(point_21_pauses(pauses), (0, 0, 0)), (told, 1))

    def test_example(self):
        self.assertEqual(unlike(point_21_pauses((1, 2)), (0, 0, 0)), [0, 1, 0, 1, 0])

    def test_without_programs(self):
        for programs in ([], [NONE], [NONE] * 4, [CLEAR]):
            self.assertEqual(self.check(programs, (1, 1)), (True, 1))

    def test_number_of_positions(self):
        self.assertIsNone(unlike(MOST, (0,)))

    def test_new_lists(self):
        unlike(EACH_ORDER, (0, 0)).clear()
        self.assertEqual(unlike(EACH_ORDER, (0, 0)), [0, 1, 0])

    def test_errors(self):
        self.check_errors(unlike)

    def test_by_name(self):
        self.assertIsNone(unlike(start=(0, 0), programs=[FINE]))


class WayTest(SequenceCase):
    def check(self, programs, start, places, state, reached):
        before = copy.deepcopy((programs, start, places, state))
        found = way_to(programs, start, places, state)
        self.assertEqual((programs, start, places, state), before)
        self.assertEqual(found is not None, reached, (places, state))
        if reached:
            self.assertIs(type(found), list)
            self.assertEqual(beginning_position(programs, found), places)
            self.assertEqual(weave(programs, start, found)[-1], state)

    def test_each_state_of_each_position(self):
        for programs, start in some_choices(84, 60):
            expected = woven_states(programs, start)
            shape = programs[0].shape if programs else (2, 2)
            for places in positions(programs):
                for state in all_states(shape):
                    self.check(programs, start, places, state, state in expected[places])

    def test_any_object(self):
        for thing in ANYTHING + [(True, 0), (1, False), [1, 0], (1, 0, 0), (2, 0), ((1,), 0), ([1], 0)]:
            if thing != (0, 0):
                self.assertIsNone(way_to([FINE], (0, 0), (1,), thing), thing)
                self.assertIsNone(way_to([FINE], (0, 0), (0,), thing), thing)
        self.assertEqual(way_to([FINE], (0, 0), (1,), (1, 0)), [0])
        self.assertEqual(way_to([FINE], (0, 0), (0,), (0, 0)), [])

    def test_without_programs(self):
        self.assertEqual(way_to([], (0, 1), (), (0, 1)), [])
        for state in [(1, 1), (0,), (0, 1, 0), (63, 63)]:
            self.assertIsNone(way_to([], (0, 1), (), state))
        self.check([NONE, NONE], (0, 1), (0, 0), (0, 1), True)

    def test_examples_of_point_21(self):
        programs = point_21_pauses((1, 2))
        self.assertEqual(way_to(programs, (0, 0, 0), (3, 3), (3, 0, 1)), [0, 1, 0, 1, 0])
        for pauses in [(), (1,), (2,)]:
            self.assertIsNone(way_to(point_21_pauses(pauses), (0, 0, 0), (3, 3), (3, 0, 1)))
        self.check(point_21_at_the_end(), (0,), (1, 1), (1,), True)

    def test_number_of_positions(self):
        self.check(MOST, (0,), (9, 9, 3), (1,), True)
        self.check(MOST, (0,), (9, 9, 3), (0,), False)
        self.check(MOST, (0,), (4, 7, 2), (1,), True)

    def test_new_lists(self):
        way_to([FINE], (0, 0), (1,), (1, 0)).clear()
        self.assertEqual(way_to([FINE], (0, 0), (1,), (1, 0)), [0])

    def test_errors(self):
        self.check_errors(way_to, (0, 0), (0, 0))
        # BadState tells of the start, whatever stands in state.
        self.check_errors(way_to, (0, 0), None)
        self.check_errors(way_to, (0, 0), [[]])

    def test_by_name(self):
        self.assertEqual(way_to(state=(1, 0), places=(1,), start=(0, 0), programs=[FINE]), [0])


if __name__ == "__main__":
    unittest.main()
