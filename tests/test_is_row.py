import copy
import unittest
from itertools import product

from pauseplaces.rows import is_row
from tests.things import HUGE, NO_TUPLES, all_rows, nested

SHAPE = (4, 2, 4)
ODD = ["0", "", None, True, False, (0,), [0], (), [], HUGE, -HUGE]
WORDS = ["add", "mix", "scale", "swap", "set", "copy"]
GOOD = {
    "add": ("add", 0, 1), "mix": ("mix", 0, 1, 1), "scale": ("scale", 0, 1),
    "swap": ("swap", 0, 2), "set": ("set", 0, 1), "copy": ("copy", 0, 1),
}


class RowTest(unittest.TestCase):
    def check(self, thing, expected, shape=SHAPE):
        before = copy.deepcopy(thing)
        self.assertIs(is_row(shape, thing), expected, (shape, thing))
        self.assertEqual(thing, before)

    def check_action(self, action, expected, shape=SHAPE):
        self.check((action, ()), expected, shape)


class WholeTest(RowTest):
    def test_no_tuples(self):
        for thing in NO_TUPLES:
            self.check(thing, False)

    def test_length(self):
        action = ("add", 0, 1)
        self.check((action, ()), True)
        for thing in [(), (action,), (action, (), ()), action, ((), ()), ((), action)]:
            self.check(thing, False)
        self.check([action, ()], False)

    def test_nested(self):
        for wrap in (tuple, list):
            self.check(nested((("add", 0, 1), ()), 1, wrap), False)
            self.check(nested("add", 20, wrap), False)
            self.check((nested("add", 19, wrap), ()), False)
            self.check((("add", 0, 1), nested(0, 19, wrap)), False)

    def test_by_name(self):
        self.assertIs(is_row(shape=(2,), thing=(("add", 0, 1), ())), True)
        self.assertIs(is_row(thing=(("add", 0, 2), ()), shape=(2,)), False)

    def test_exactly_the_rows_without_conditions(self):
        for shape in [(2,), (4, 2), (3, 2, 3)]:
            rows = set(all_rows(shape))
            bound = range(-1, max(shape) + 2)
            for word in WORDS + ["sub", "", "ADD"]:
                for length in range(5):
                    for rest in product(bound, repeat=min(length, 3)):
                        row = ((word,) + rest + (0,) * (length - len(rest)), ())
                        self.check(row, row in rows, shape)

    def test_exactly_the_rows_with_conditions(self):
        shape = (3, 2, 3)
        rows = set(all_rows(shape))
        pairs = list(product(range(-1, 4), repeat=2))
        for action in GOOD.values():
            for pair in pairs:
                self.check((action, (pair,)), (action, (pair,)) in rows, shape)
            for two in product(pairs, repeat=2):
                self.check((action, two), (action, two) in rows, shape)


class ActionTest(RowTest):
    def test_each_action(self):
        for action in GOOD.values():
            self.check_action(action, True)

    def test_no_tuple(self):
        for action in list(GOOD.values()):
            self.check_action(list(action), False)
        for action in NO_TUPLES:
            self.check_action(action, False)
        self.check_action((), False)

    def test_word(self):
        others = ["", "Add", "add ", "subtract", "if", "pause", "undo", 0, True, None]
        others += [["add"], ("add",), [], ()]
        for other in others:
            for action in GOOD.values():
                self.check_action((other,) + action[1:], False)

    def test_length(self):
        for action in GOOD.values():
            self.check_action(action[:-1], False)
            self.check_action(action[:1], False)
            self.check_action(action + (0,), False)
            self.check_action(action + (1,), False)

    def test_odd_things_in_each_place(self):
        for action in GOOD.values():
            for k in range(1, len(action)):
                for odd in ODD:
                    self.check_action(action[:k] + (odd,) + action[k + 1:], False)

    def test_bool_where_its_integer_would_do(self):
        rows = [("add", True, 0), ("add", 0, True), ("mix", False, 1, 1), ("mix", 0, True, 1),
                ("mix", 0, 1, False), ("scale", True, 1), ("scale", 0, True), ("swap", False, 2),
                ("swap", 2, False), ("set", False, 1), ("set", 1, False), ("copy", True, 0),
                ("copy", 0, True)]
        for action in rows:
            plain = tuple(int(k) if isinstance(k, bool) else k for k in action)
            self.check_action(plain, True)
            self.check_action(action, False)

    def test_bounds_of_i(self):
        for word in ("add", "scale", "set"):
            for i in (-1, 0, 2, 3):
                self.check_action((word, i, 1), 0 <= i <= 2)
        for i in (-1, 0, 2, 3):
            self.check_action(("mix", i, 1, 1), 0 <= i <= 2)
            self.check_action(("copy", i, 1), 0 <= i <= 2)
        self.check_action(("swap", -1, 0), False)
        self.check_action(("swap", 3, 0), False)

    def test_bounds_of_j(self):
        for j in (-1, 0, 2, 3):
            self.check_action(("mix", 1, j, 1), 0 <= j <= 2)
            self.check_action(("copy", 1, j), 0 <= j <= 2)
        self.check_action(("swap", 2, -1), False)
        self.check_action(("swap", 0, 3), False)

    def test_bounds_of_c(self):
        for shape in [(2,), (3,), (64,)]:
            base = shape[0]
            for word in ("add", "scale", "set"):
                for c in (-1, 0, base - 1, base):
                    self.check_action((word, 0, c), 0 <= c < base, shape)

    def test_c_counts_by_the_base_at_i(self):
        self.check_action(("mix", 0, 1, 3), True)
        self.check_action(("mix", 0, 1, 4), False)
        self.check_action(("mix", 0, 1, -1), False)
        self.check_action(("mix", 1, 0, 1), True)
        self.check_action(("mix", 1, 0, 2), False)
        self.check_action(("set", 1, 2), False)
        self.check_action(("set", 2, 3), True)

    def test_equal_indexes(self):
        for i in range(3):
            self.check_action(("mix", i, i, 1), False)
            self.check_action(("copy", i, i), False)
            self.check_action(("swap", i, i), False)
        self.check_action(("copy", 0, 0), False, (2,))

    def test_swap_of_different_bases(self):
        for i, j in product(range(3), repeat=2):
            self.check_action(("swap", i, j), i != j and SHAPE[i] == SHAPE[j])

    def test_copy_of_different_bases(self):
        for i, j in product(range(3), repeat=2):
            self.check_action(("copy", i, j), i != j)


class ConditionsTest(RowTest):
    def check_conditions(self, conditions, expected, action=("add", 0, 1)):
        self.check((action, conditions), expected)

    def test_conditions(self):
        for conditions in [(), ((1, 0),), ((2, 3),), ((1, 1), (2, 0))]:
            self.check_conditions(conditions, True)

    def test_no_tuple(self):
        for conditions in NO_TUPLES:
            self.check_conditions(conditions, False)
        self.check_conditions([(1, 0)], False)

    def test_no_pairs(self):
        for pair in [(), (1,), (1, 0, 0), [1, 0], 1, None, "10", True, ((1, 0),)]:
            self.check_conditions((pair,), False)
            self.check_conditions(((1, 0), pair), False)
        self.check_conditions((1, 0), False)

    def test_odd_things_in_pairs(self):
        for odd in ODD:
            self.check_conditions(((odd, 0),), False)
            self.check_conditions(((1, odd),), False)

    def test_bool_where_its_integer_would_do(self):
        self.check_conditions(((1, 1),), True)
        self.check_conditions(((True, 1),), False)
        self.check_conditions(((1, True),), False)
        self.check_conditions(((1, False),), False)
        self.check_conditions(((False, 0),), False, ("add", 1, 1))

    def test_bounds_of_j(self):
        for j in (-1, 1, 2, 3):
            self.check_conditions(((j, 0),), 1 <= j <= 2)

    def test_bounds_of_v(self):
        for j in (1, 2):
            for v in (-1, 0, SHAPE[j] - 1, SHAPE[j]):
                self.check_conditions(((j, v),), 0 <= v < SHAPE[j])

    def test_order(self):
        self.check_conditions(((2, 0), (1, 0)), False)
        self.check_conditions(((1, 0), (1, 0)), False)
        self.check_conditions(((1, 0), (1, 1)), False)
        self.check_conditions(((1, 0), (2, 0), (2, 1)), False)

    def test_changed_digits(self):
        for action in GOOD.values():
            self.check_conditions(((0, 0),), False, action)
            self.check_conditions(((0, 0), (1, 0)), False, action)

    def test_swap_changes_both(self):
        for action in [("swap", 0, 2), ("swap", 2, 0)]:
            for j in range(3):
                self.check_conditions(((j, 0),), j == 1, action)
            self.check_conditions(((0, 0), (1, 0)), False, action)
            self.check_conditions(((1, 0), (2, 0)), False, action)

    def test_a_digit_that_is_read_may_have_a_condition(self):
        for action in [("mix", 0, 1, 1), ("copy", 0, 1)]:
            self.check_conditions(((1, 1),), True, action)
            self.check_conditions(((1, 0), (2, 3)), True, action)


if __name__ == "__main__":
    unittest.main()
