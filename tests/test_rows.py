import copy
import unittest
from math import gcd

from pauseplaces.errors import Losing
from pauseplaces.rows import done, inverse, is_row, joined, loses
from pauseplaces.shapes import is_state, states
from tests.things import all_rows

SHAPES = [(2,), (6,), (4, 2), (2, 4), (2, 2, 2), (3, 2, 3), (4, 4), (2, 6, 2)]


def each_row():
    return [(shape, row) for shape in SHAPES for row in all_rows(shape)]


def each_number():
    return [(base, c) for base in range(2, 65) for c in range(base)]


class DoneTest(unittest.TestCase):
    def check(self, shape, action, state, expected, conditions=()):
        row = (action, conditions)
        before = copy.deepcopy((shape, row, state))
        self.assertEqual(done(shape, row, state), expected)
        self.assertEqual((shape, row, state), before)

    def test_add(self):
        self.check((5, 3), ("add", 0, 2), (1, 2), (3, 2))
        self.check((5, 3), ("add", 0, 4), (1, 2), (0, 2))
        self.check((5, 3), ("add", 1, 2), (4, 2), (4, 1))
        self.check((5, 3), ("add", 1, 0), (4, 2), (4, 2))

    def test_mix(self):
        self.check((5, 3), ("mix", 0, 1, 2), (0, 2), (4, 2))
        self.check((5, 3), ("mix", 0, 1, 4), (1, 2), (4, 2))
        self.check((5, 3), ("mix", 1, 0, 2), (4, 1), (4, 0))
        self.check((5, 3), ("mix", 1, 0, 0), (4, 1), (4, 1))

    def test_mix_of_a_digit_with_a_greater_base(self):
        self.check((2, 9), ("mix", 0, 1, 1), (1, 8), (1, 8))
        self.check((2, 9), ("mix", 0, 1, 1), (1, 7), (0, 7))

    def test_scale(self):
        self.check((5, 3), ("scale", 0, 3), (4, 2), (2, 2))
        self.check((5, 3), ("scale", 0, 0), (4, 2), (0, 2))
        self.check((5, 3), ("scale", 1, 2), (4, 2), (4, 1))
        self.check((6,), ("scale", 0, 4), (5,), (2,))

    def test_swap(self):
        self.check((4, 2, 4), ("swap", 0, 2), (3, 1, 2), (2, 1, 3))
        self.check((4, 2, 4), ("swap", 2, 0), (3, 1, 2), (2, 1, 3))

    def test_set(self):
        self.check((5, 3), ("set", 0, 4), (1, 2), (4, 2))
        self.check((5, 3), ("set", 1, 0), (1, 2), (1, 0))

    def test_copy(self):
        self.check((5, 3), ("copy", 0, 1), (4, 2), (2, 2))
        self.check((5, 5), ("copy", 1, 0), (4, 2), (4, 4))

    def test_copy_of_a_digit_with_a_greater_base(self):
        self.check((3, 8), ("copy", 0, 1), (1, 2), (2, 2))
        self.check((3, 8), ("copy", 0, 1), (1, 3), (0, 3))
        self.check((3, 8), ("copy", 0, 1), (1, 7), (1, 7))

    def test_conditions_that_hold(self):
        self.check((4, 2, 3), ("add", 0, 1), (1, 1, 2), (2, 1, 2), ((1, 1),))
        self.check((4, 2, 3), ("set", 0, 0), (1, 1, 2), (0, 1, 2), ((1, 1), (2, 2)))
        self.check((4, 2, 3), ("mix", 0, 2, 1), (1, 1, 2), (3, 1, 2), ((2, 2),))
        self.check((4, 2, 3), ("copy", 1, 0), (2, 1, 2), (2, 0, 2), ((0, 2),))
        self.check((4, 2, 4), ("swap", 0, 2), (1, 1, 2), (2, 1, 1), ((1, 1),))
        self.check((4, 2, 3), ("scale", 0, 2), (1, 1, 2), (2, 1, 2), ((2, 2),))

    def test_conditions_that_do_not_hold(self):
        state = (1, 1, 2)
        self.check((4, 2, 3), ("add", 0, 1), state, state, ((1, 0),))
        self.check((4, 2, 3), ("set", 0, 0), state, state, ((1, 1), (2, 1)))
        self.check((4, 2, 3), ("set", 0, 0), state, state, ((1, 0), (2, 2)))
        self.check((4, 2, 3), ("mix", 0, 2, 1), state, state, ((2, 1),))
        self.check((4, 2, 3), ("copy", 1, 0), state, state, ((0, 0),))
        self.check((4, 2, 4), ("swap", 0, 2), state, state, ((1, 0),))
        self.check((4, 2, 3), ("scale", 0, 2), state, state, ((2, 0),))

    def test_acts_exactly_where_the_conditions_hold(self):
        for shape, row in each_row():
            action, conditions = row
            for state in states(shape):
                holds = all(state[j] == v for j, v in conditions)
                expected = done(shape, (action, ()), state) if holds else state
                self.assertEqual(done(shape, row, state), expected)

    def test_always_a_state(self):
        for shape, row in each_row():
            for state in states(shape):
                self.assertTrue(is_state(shape, done(shape, row, state)), (shape, row, state))

    def test_by_name(self):
        self.assertEqual(done(state=(1,), shape=(3,), row=(("add", 0, 1), ())), (2,))

    def test_example(self):
        self.assertEqual(
            [done((4, 2), (("mix", 0, 1, 3), ()), (2, 1)),
             done((4, 2), (("add", 0, 1), ((1, 0),)), (2, 1))],
            [(1, 1), (2, 1)])


class LosesTest(unittest.TestCase):
    def test_set_and_copy(self):
        for shape, row in each_row():
            if row[0][0] in ("set", "copy"):
                self.assertIs(loses(shape, row), True, (shape, row))

    def test_add_mix_and_swap(self):
        for shape, row in each_row():
            if row[0][0] in ("add", "mix", "swap"):
                self.assertIs(loses(shape, row), False, (shape, row))

    def test_scale_by_each_number(self):
        for base, c in each_number():
            self.assertIs(loses((base,), (("scale", 0, c), ())), gcd(base, c) > 1, (base, c))

    def test_scale_counts_by_the_base_at_i(self):
        for conditions in [(), ((0, 1),), ((2, 1),), ((0, 1), (2, 0))]:
            self.assertIs(loses((2, 9, 2), (("scale", 1, 2), conditions)), False)
            self.assertIs(loses((2, 9, 2), (("scale", 1, 3), conditions)), True)
            self.assertIs(loses((2, 9, 2), (("scale", 1, 0), conditions)), True)

    def test_loses_exactly_if_two_states_meet(self):
        for shape, row in each_row():
            ends = {done(shape, row, state) for state in states(shape)}
            self.assertIs(loses(shape, row), len(ends) < len(states(shape)), (shape, row))

    def test_by_name(self):
        self.assertIs(loses(row=(("set", 0, 1), ()), shape=(2,)), True)

    def test_example(self):
        self.assertIs(loses((4,), (("scale", 0, 2), ())), True)


class InverseTest(unittest.TestCase):
    def check_back(self, shape, row):
        back = inverse(shape, row)
        self.assertIs(is_row(shape, back), True, (shape, row, back))
        self.assertEqual((back[0][0], back[1]), (row[0][0], row[1]))
        for state in states(shape):
            self.assertEqual(done(shape, back, done(shape, row, state)), state)
            self.assertEqual(done(shape, row, done(shape, back, state)), state)

    def test_leads_back_both_ways(self):
        for shape, row in each_row():
            if not loses(shape, row):
                before = copy.deepcopy(row)
                self.check_back(shape, row)
                self.assertEqual(row, before)

    def test_losing(self):
        for shape, row in each_row():
            if loses(shape, row):
                with self.assertRaises(Losing) as held:
                    inverse(shape, row)
                self.assertEqual(held.exception.index, 0)

    def test_add_and_mix(self):
        for word, rest in [("add", ()), ("mix", (0,))]:
            for c, back in [(0, 0), (1, 4), (2, 3), (4, 1)]:
                row = ((word, 1) + rest + (c,), ((2, 1),))
                self.assertEqual(
                    inverse((2, 5, 2), row), ((word, 1) + rest + (back,), ((2, 1),)))

    def test_scale_by_each_number(self):
        for base, c in each_number():
            if gcd(base, c) == 1:
                action, conditions = inverse((base,), (("scale", 0, c), ()))
                self.assertEqual((action[:2], conditions), (("scale", 0), ()))
                self.assertIn(action[2], range(1, base))
                self.assertEqual(action[2] * c % base, 1)

    def test_swap(self):
        row = (("swap", 2, 0), ((1, 1),))
        self.assertEqual(inverse((3, 2, 3), row), row)

    def test_by_name(self):
        self.assertEqual(inverse(row=(("add", 0, 1), ()), shape=(3,)), (("add", 0, 2), ()))

    def test_example(self):
        self.assertEqual(inverse((4,), (("scale", 0, 3), ())), (("scale", 0, 3), ()))


class JoinedTest(unittest.TestCase):
    def check_joined(self, shape, row):
        before = copy.deepcopy(row)
        found = joined(shape, row)
        self.assertEqual(row, before)
        self.assertIs(type(found), tuple)
        one, other = found
        self.assertTrue(is_state(shape, one) and is_state(shape, other), (shape, row))
        self.assertNotEqual(one, other)
        self.assertEqual(done(shape, row, one), done(shape, row, other), (shape, row))

    def test_rows_that_lose(self):
        for shape, row in each_row():
            if loses(shape, row):
                self.check_joined(shape, row)

    def test_rows_that_can_be_undone(self):
        for shape, row in each_row():
            if not loses(shape, row):
                self.assertIsNone(joined(shape, row), (shape, row))

    def test_scale_by_each_number(self):
        for base, c in each_number():
            if gcd(base, c) > 1:
                self.check_joined((base,), (("scale", 0, c), ()))

    def test_conditions_that_leave_few_states(self):
        shape = (2, 3, 2, 2, 2)
        conditions = ((0, 1), (2, 1), (3, 0), (4, 1))
        for action in [("set", 1, 2), ("copy", 1, 0), ("copy", 1, 3), ("scale", 1, 0)]:
            self.check_joined(shape, (action, conditions))
        self.check_joined((4, 16), (("scale", 0, 2), ((1, 15),)))
        self.check_joined((9, 7), (("scale", 0, 6), ((1, 6),)))

    def test_by_name(self):
        found = joined(row=(("set", 0, 1), ()), shape=(2,))
        self.assertEqual(sorted(found), [(0,), (1,)])


if __name__ == "__main__":
    unittest.main()
