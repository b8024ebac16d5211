import unittest

from pauseplaces import errors
from pauseplaces.errors import PauseError

FIELDS = {
    "BadShape": (), "BadState": (), "BadRow": ("index",), "BadPauses": (),
    "BadScript": ("line",), "Long": (), "Losing": ("index",), "TooMany": (),
    "BadWeaving": ("index",), "BadWalk": ("index",), "EndsClash": ("start",),
    "BadPrices": (), "BadName": (), "NameTaken": ("name",), "Full": (), "Spent": (),
    "NoName": ("name",), "AtEnd": ("name",), "AtStart": ("name",), "NotDone": ("name",),
    "Part": ("one", "other"), "Clash": ("place",), "Standing": ("place",),
    "NoPause": ("place",), "HasPause": ("place",), "BadMove": ("index",),
    "NoMark": ("number",), "Stale": ("number",), "BadPage": ("line",),
}
VALUES = [0, 7, -1, 10 ** 29, True, None, "ab", (0, 1), ["a", "b"], ([1], ("x", None))]


def each():
    return [(name, getattr(errors, name), fields) for name, fields in FIELDS.items()]


class ErrorsTest(unittest.TestCase):
    def check_fields(self, error, fields, values):
        for field, value in zip(fields, values):
            self.assertIs(getattr(error, field), value)

    def test_each_is_defined_in_errors(self):
        for name, kind, _ in each():
            self.assertEqual((kind.__name__, kind.__module__), (name, "pauseplaces.errors"))

    def test_base_class(self):
        self.assertTrue(issubclass(PauseError, ValueError))
        self.assertIsInstance(PauseError(), ValueError)

    def test_no_error_is_a_base_of_another(self):
        for name, kind, _ in each():
            self.assertTrue(issubclass(kind, PauseError), name)
            self.assertIsNot(kind, PauseError)
            for other_name, other, _ in each():
                self.assertEqual(issubclass(kind, other), name == other_name, (name, other_name))

    def test_fields_by_position_and_by_name(self):
        for name, kind, fields in each():
            for k in range(len(VALUES)):
                values = [VALUES[k], VALUES[k - 1]][:len(fields)]
                with self.subTest(name=name, values=values):
                    self.check_fields(kind(*values), fields, values)
                    self.check_fields(kind(**dict(zip(fields, values))), fields, values)

    def test_fields_of_part_in_any_order(self):
        error = errors.Part(other=["b", "a"], one=["a", "b"])
        self.assertEqual((error.one, error.other), (["a", "b"], ["b", "a"]))

    def test_no_other_attributes(self):
        for name, kind, fields in each():
            self.assertEqual(sorted(vars(kind(*range(len(fields))))), sorted(fields), name)

    def test_nothing_but_the_fields_is_taken(self):
        for name, kind, fields in each():
            values = list(range(len(fields)))
            with self.subTest(name=name):
                with self.assertRaises(TypeError):
                    kind(*values, 9)
                with self.assertRaises(TypeError):
                    kind(*values, fault=9)
                if fields:
                    with self.assertRaises(TypeError):
                        kind(*values[1:])

    def test_each_can_be_raised_and_caught(self):
        for name, kind, fields in each():
            values = list(range(len(fields)))
            for caught in (kind, PauseError, ValueError):
                with self.subTest(name=name, caught=caught):
                    with self.assertRaises(caught) as held:
                        raise kind(*values)
                    self.check_fields(held.exception, fields, values)


if __name__ == "__main__":
    unittest.main()
