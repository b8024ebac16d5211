import copy
import unittest
from itertools import product

from pauseplaces.shapes import is_shape, is_state, states
from tests.things import HUGE, NO_TUPLES, nested

SHAPES = [(2,), (64,), (2, 2), (8, 8), (4, 2, 3), (2, 32), (32, 2), (3, 21), (2,) * 6, (4, 4, 4)]


class ShapeTest(unittest.TestCase):
    def check(self, thing, expected):
        before = copy.deepcopy(thing)
        self.assertIs(is_shape(thing), expected, thing)
        self.assertEqual(thing, before)

    def test_shapes(self):
        for shape in SHAPES:
            self.check(shape, True)

    def test_number_of_bases(self):
        for many in range(8):
            self.check((2,) * many, 1 <= many <= 6)

    def test_single_bases(self):
        for base in range(-3, 130):
            self.check((base,), 2 <= base <= 64)
        for base in (0, 1, -2, 65):
            self.check((2, base), False)
            self.check((base, 2), False)

    def test_negative_bases_with_a_small_product(self):
        self.check((-2, -2), False)
        self.check((2, -2, 2), False)
        self.check((0, 64), False)

    def test_product(self):
        for one, other in product(range(2, 40), repeat=2):
            self.check((one, other), one * other <= 64)
        self.check((2, 2, 16), True)
        self.check((2, 2, 17), False)
        self.check((2, 2, 2, 2, 2, 2), True)
        self.check((2, 2, 2, 2, 2, 3), False)
        self.check((3, 2, 2, 2, 2), True)
        self.check((5, 13), False)

    def test_bools_are_no_bases(self):
        for thing in [(True,), (False,), (2, True), (True, 2), (2, False)]:
            self.check(thing, False)

    def test_other_bases(self):
        for base in ["2", "", None, (2,), [2], (), [], HUGE, -HUGE]:
            self.check((base,), False)
            self.check((2, base), False)
            self.check((base, 2), False)

    def test_no_tuples(self):
        for thing in NO_TUPLES:
            self.check(thing, False)

    def test_nested(self):
        for wrap in (tuple, list):
            self.check(nested(2, 2, wrap), False)
            self.check(nested((2, 2), 1, wrap), False)
            self.check(nested(2, 20, wrap), False)

    def test_by_name(self):
        self.assertIs(is_shape(thing=(2, 2)), True)
        self.assertIs(is_shape(thing=2), False)


class StateTest(unittest.TestCase):
    def check(self, shape, thing, expected):
        before = copy.deepcopy(thing)
        self.assertIs(is_state(shape, thing), expected, (shape, thing))
        self.assertEqual(thing, before)

    def test_each_digit_in_a_box(self):
        for shape in [(2,), (4, 2), (2, 4), (4, 2, 3)]:
            for thing in product(range(-2, 7), repeat=len(shape)):
                inside = all(0 <= digit < base for base, digit in zip(shape, thing))
                self.check(shape, thing, inside)

    def test_bounds_at_each_index(self):
        for shape in SHAPES:
            for i, base in enumerate(shape):
                for digit in (-1, 0, base - 1, base, HUGE, -HUGE):
                    thing = (0,) * i + (digit,) + (0,) * (len(shape) - i - 1)
                    self.check(shape, thing, 0 <= digit < base)

    def test_number_of_digits(self):
        for shape in SHAPES:
            for many in range(9):
                self.check(shape, (0,) * many, many == len(shape))

    def test_bools_are_no_digits(self):
        for thing in [(True, 0), (0, True), (False, 0), (0, False), (True, True)]:
            self.check((2, 2), thing, False)

    def test_other_digits(self):
        for digit in ["0", "", None, (0,), [0], (), []]:
            self.check((2, 2), (digit, 0), False)
            self.check((2, 2), (0, digit), False)
            self.check((2,), (digit,), False)

    def test_no_tuples(self):
        for thing in NO_TUPLES:
            for shape in SHAPES:
                self.check(shape, thing, False)
        self.check((2, 2), "00", False)

    def test_nested(self):
        for wrap in (tuple, list):
            self.check((2,), nested((0,), 1, wrap), False)
            self.check((2,), nested(0, 20, wrap), False)

    def test_by_name(self):
        self.assertIs(is_state(shape=(4, 2), thing=(3, 1)), True)
        self.assertIs(is_state(thing=(3, 2), shape=(4, 2)), False)


class StatesTest(unittest.TestCase):
    def test_small(self):
        self.assertEqual(states((2,)), [(0,), (1,)])
        self.assertEqual(
            states((2, 3)), [(0, 0), (0, 1), (0, 2), (1, 0), (1, 1), (1, 2)])

    def test_all_and_ascending(self):
        for shape in SHAPES:
            found = states(shape)
            self.assertIs(type(found), list)
            self.assertEqual(found, sorted(found))
            self.assertEqual(found, list(product(*[range(base) for base in shape])))
            for state in found:
                self.assertIs(is_state(shape, state), True)

    def test_a_new_list_at_each_call(self):
        found = states((2, 2))
        found.append("more")
        found[0] = None
        self.assertEqual(states((2, 2)), [(0, 0), (0, 1), (1, 0), (1, 1)])
        self.assertIsNot(states((2, 2)), states((2, 2)))

    def test_by_name(self):
        self.assertEqual(states(shape=(2,)), [(0,), (1,)])


if __name__ == "__main__":
    unittest.main()
