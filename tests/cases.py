"""What the test cases of several files share."""

import copy
import unittest


class Case(unittest.TestCase):
    def check_raises(self, kind, call, *things, fields=None, **more):
        """A call raises exactly this error, with these fields, and leaves its arguments alone."""
        before = copy.deepcopy((things, more))
        with self.assertRaises(kind) as held:
            call(*things, **more)
        self.assertIs(type(held.exception), kind)
        self.assertEqual(vars(held.exception), fields or {})
        self.assertEqual((things, more), before)
