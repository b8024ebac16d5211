import copy
import unittest
from itertools import islice, product
from math import factorial

from pauseplaces.errors import BadState, BadWeaving, TooMany
from pauseplaces.programs import Program
from pauseplaces.weavings import chain, fault, position, weavings, woven
from tests.cases import Case
from tests.plain import (
    all_weavings, beginning_position, counting, differ_in_one_exchange, example_programs, rng,
    some_programs, some_state, weave)
from tests.things import ANYTHING, HUGE

NONE = Program((2,), ())
ODD = [True, False, None, "0", "", 0.0, (0,), [0], (), -1, -HUGE, HUGE]
# 10 * 10 * 4 and 9 * 9 * 5 positions.
MOST = [counting(9, range(1, 9))] * 2 + [counting(3, (1, 2))]
TOO_MANY = [counting(8, range(1, 8))] * 2 + [counting(4, (1, 2, 3))]


def some_lists():
    """Lists of few programs with few stretches."""
    found = [[], [NONE], [NONE, NONE], [counting(1)], [counting(3, (1, 2))], [NONE, counting(2, (1,)), NONE],
             [counting(2, (1,))] * 2, [counting(1)] * 4, [counting(2)] * 3]
    source = rng(30)
    for _ in range(30):
        many = source.randint(1, 4)
        found.append(some_programs(
            source, source.choice([(2,), (2, 3)]), many, 4, losing=True, most_pauses=5 // many - 1))
    return found


class WeavingCase(Case):
    def check_bad(self, index, call, *things):
        self.check_raises(BadWeaving, call, *things, fields={"index": index})


class FaultTest(WeavingCase):
    def check(self, programs, weaving, expected):
        before = copy.deepcopy((programs, weaving))
        self.assertEqual(fault(programs, weaving), expected, weaving)
        self.assertEqual((programs, weaving), before)

    def test_exactly_the_weavings(self):
        for programs in some_lists():
            right = all_weavings(programs)
            length = len(right[0])
            if length <= 5:
                for many in range(length + 2):
                    for entries in product(range(-1, len(programs) + 1), repeat=many):
                        found = fault(programs, list(entries))
                        self.assertEqual(found is None, list(entries) in right)

    def test_index(self):
        two = [counting(2, (1,)), counting(1)]
        for weaving, expected in [
                ([], 0), ([0], 1), ([0, 0], 2), ([0, 1], 2), ([0, 0, 1], None), ([0, 1, 0], None),
                ([1, 0, 0], None), ([0, 0, 0], 2), ([1, 1, 0], 1), ([0, 0, 1, 0], 3), ([0, 0, 1, 1], 3),
                ([2, 0, 0], 0), ([0, 2, 7], 1), ([0, 1, -1], 2), ([-1], 0), ([0, 0, 1, None], 3)]:
            self.check(two, weaving, expected)

    def test_without_programs(self):
        self.check([], [], None)
        self.check([], [0], 0)
        self.check([NONE], [], None)
        self.check([NONE, NONE], [0], 0)
        self.check([NONE, counting(1)], [1], None)
        self.check([NONE, counting(1)], [0], 0)

    def test_odd_entries(self):
        two = [counting(1)] * 2
        for odd in ODD:
            self.check(two, [odd, 0], 0)
            self.check(two, [0, odd], 1)
            self.check(two, [0, 1, odd], 2)

    def test_any_object(self):
        for thing in ANYTHING + [[0], [0, 0], [0, None]]:
            expected = {"[0]": None, "[0, 0]": 1, "[0, None]": 1}.get(repr(thing), 0)
            self.check([counting(1)], thing, expected)
            self.check([], thing, None if thing == [] else 0)
        self.check([counting(1)] * 2, (0, 1), 0)

    def test_one_program_several_times(self):
        same = counting(1)
        self.check([same] * 3, [2, 0, 1], None)
        self.check([same] * 3, [2, 0, 0], 2)

    def test_number_of_positions(self):
        self.check(MOST, [0] * 9 + [1] * 9 + [2] * 3, None)
        self.check_raises(TooMany, fault, TOO_MANY, 7)

    def test_by_name(self):
        self.assertIs(fault(weaving=[0], programs=[counting(1)]), None)


class PositionTest(WeavingCase):
    def test_all_beginnings(self):
        for programs in some_lists():
            for weaving in all_weavings(programs)[:50]:
                for many in range(len(weaving) + 1):
                    beginning = weaving[:many]
                    self.assertEqual(position(programs, beginning), beginning_position(programs, beginning))
                    self.assertEqual(beginning, weaving[:many])

    def test_as_numbers_of_rows(self):
        programs = [counting(7, (2, 5)), NONE, counting(4)]
        self.assertEqual(position(programs, []), (0, 0, 0))
        self.assertEqual(position(programs, [0]), (2, 0, 0))
        self.assertEqual(position(programs, [0, 2, 0]), (5, 0, 4))
        self.assertEqual(position(programs, [0, 2, 0, 0]), (7, 0, 4))
        self.assertEqual(position([], []), ())

    def test_bad_beginnings(self):
        two = [counting(2, (1,)), counting(1)]
        for odd in ODD + [2, 3]:
            self.check_bad(0, position, two, [odd])
            self.check_bad(2, position, two, [0, 1, odd, 0])
        self.check_bad(2, position, two, [0, 0, 0])
        self.check_bad(1, position, two, [1, 1])
        self.check_bad(0, position, [], [0])
        for thing in ANYTHING:
            if not isinstance(thing, list):
                self.check_bad(0, position, two, thing)

    def test_number_of_positions(self):
        self.assertEqual(position(MOST, [0, 2]), (1, 0, 1))
        self.check_raises(TooMany, position, TOO_MANY, 7)

    def test_by_name(self):
        self.assertEqual(position(beginning=[0], programs=[counting(1)]), (1,))


class WovenTest(WeavingCase):
    def test_all_beginnings(self):
        source = rng(31)
        for programs in some_lists():
            start = some_state(source, programs[0].shape) if programs else (0, 1)
            for weaving in all_weavings(programs)[:30]:
                for many in range(len(weaving) + 1):
                    self.assertEqual(woven(programs, start, weaving[:many]),
                                     weave(programs, start, weaving[:many]))

    def test_any_object_as_start(self):
        for thing in ANYTHING + [(2, 0), (0, True), (0, 0, 0)]:
            if thing != (0, 0):
                self.check_raises(BadState, woven, [counting(1, shape=(2, 2))], thing, [])

    def test_bad_beginnings(self):
        two = [counting(2, (1,)), counting(1)]
        for odd in ODD + [2]:
            self.check_bad(1, woven, two, (0,), [1, odd])
        self.check_bad(1, woven, two, (0,), [1, 1])
        for thing in ANYTHING:
            if not isinstance(thing, list):
                self.check_bad(0, woven, two, (0,), thing)

    def test_sequence_of_errors(self):
        self.check_raises(TooMany, woven, TOO_MANY, (7,), [9])
        self.check_raises(BadState, woven, [counting(1)], (7,), [9])
        self.assertEqual(len(woven(MOST, (0,), [0, 1])), 3)

    def test_without_programs(self):
        self.assertEqual(woven([], (1, 0), []), [(1, 0)])
        self.check_bad(0, woven, [], (1, 0), [0])

    def test_new_lists(self):
        programs, beginning = [counting(2, (1,))], [0]
        found = woven(programs, (0,), beginning)
        found.append(None)
        self.assertEqual(woven(programs, (0,), beginning), [(0,), (1,)])
        self.assertEqual(beginning, [0])

    def test_by_name(self):
        self.assertEqual(woven(beginning=[0], start=(0,), programs=[counting(1)]), [(0,), (1,)])


class ChainTest(WeavingCase):
    def exchanges(self, one, other):
        """The number of pairs of entries that stand in different order (point 10)."""
        def stretches(weaving):
            return [(k, weaving[:at].count(k)) for at, k in enumerate(weaving)]
        first, second = stretches(one), stretches(other)
        pairs = [(a, b) for at, a in enumerate(first) for b in first[at + 1:]]
        return len([1 for a, b in pairs if second.index(a) > second.index(b)])

    def check(self, programs, one, other):
        before = copy.deepcopy((programs, one, other))
        found = chain(programs, one, other)
        self.assertEqual((programs, one, other), before)
        self.assertIs(type(found), list)
        self.assertEqual((found[0], found[-1]), (one, other))
        self.assertEqual(len(found), self.exchanges(one, other) + 1)
        for weaving in found:
            self.assertIs(type(weaving), list)
            self.assertIs(fault(programs, weaving), None)
        for ahead, behind in zip(found, found[1:]):
            self.assertTrue(differ_in_one_exchange(ahead, behind), found)
        return found

    def test_all_pairs(self):
        for programs in some_lists():
            all_of_them = all_weavings(programs)
            if len(all_of_them) <= 40:
                for one, other in product(all_of_them, repeat=2):
                    self.check(programs, one, other)

    def test_long_ones(self):
        source = rng(32)
        one = [0] * 9 + [1] * 9 + [2] * 3
        self.check(MOST, one, one[::-1])
        for _ in range(20):
            self.check(MOST, source.sample(one, len(one)), source.sample(one, len(one)))

    def test_lists_are_new(self):
        programs = [counting(1)] * 2
        one, other = [0, 1], [1, 0]
        found = self.check(programs, one, other)
        found[0].append(7)
        found[1].append(7)
        self.assertEqual((one, other), ([0, 1], [1, 0]))
        self.assertEqual(chain(programs, one, other), [[0, 1], [1, 0]])
        found = chain(programs, one, one)
        self.assertEqual(found, [[0, 1]])
        self.assertIsNot(found[0], one)
        several = chain([counting(1)] * 3, [0, 1, 2], [2, 1, 0])
        self.assertEqual(len({id(weaving) for weaving in several}), len(several))

    def test_without_programs(self):
        self.assertEqual(chain([], [], []), [[]])
        self.assertEqual(chain([NONE], [], []), [[]])

    def test_first_that_is_no_weaving(self):
        two = [counting(2, (1,)), counting(1)]
        right = [0, 1, 0]
        for wrong in [[], [0], [0, 0], [0, 0, 0], [0, 0, 1, 0], [2], [0, True, 0], None, (0, 1, 0), "010"]:
            index = fault(two, wrong)
            self.check_bad(index, chain, two, wrong, right)
            self.check_bad(index, chain, two, right, wrong)
            self.check_bad(index, chain, two, wrong, [9])
            self.check_bad(0, chain, two, [9], wrong)

    def test_any_objects(self):
        for thing in ANYTHING:
            index = 1 if thing == [0, 0] else 0
            self.check_bad(index, chain, [counting(1)], thing, [0])
            self.check_bad(index, chain, [counting(1)], [0], thing)

    def test_number_of_positions(self):
        self.check_raises(TooMany, chain, TOO_MANY, None, None)

    def test_by_name(self):
        self.assertEqual(chain(other=[0], one=[0], programs=[counting(1)]), [[0]])


class WeavingsTest(WeavingCase):
    def test_each_once_and_ascending(self):
        for programs in some_lists():
            found = list(weavings(programs))
            self.assertEqual(found, all_weavings(programs))
            self.assertEqual(found, sorted(found))

    def test_how_many(self):
        for counts in [(2, 2), (3, 1, 2), (4, 4), (1, 1, 1, 1), (2, 2, 2), (5, 0, 3)]:
            programs = [counting(many, range(1, many)) for many in counts]
            expected = factorial(sum(counts))
            for many in counts:
                expected //= factorial(many)
            found = list(weavings(programs))
            self.assertEqual(len(found), expected)
            self.assertEqual(len({tuple(weaving) for weaving in found}), expected)

    def test_an_iterator(self):
        found = weavings([counting(1)] * 2)
        self.assertIs(iter(found), found)
        self.assertEqual(next(found), [0, 1])
        self.assertEqual(next(found), [1, 0])
        with self.assertRaises(StopIteration):
            next(found)
        self.assertEqual(list(weavings([])), [[]])
        self.assertEqual(list(weavings([NONE, NONE])), [[]])

    def test_does_not_work_ahead(self):
        found = list(islice(weavings(MOST), 3))
        base = [0] * 9 + [1] * 9
        self.assertEqual(found, [base + [2] * 3, base[:-1] + [2, 1, 2, 2], base[:-1] + [2, 2, 1, 2]])

    def test_a_new_list_for_each(self):
        found = []
        for weaving in weavings([counting(2, (1,)), counting(1)]):
            found.append(list(weaving))
            weaving.clear()
        self.assertEqual(found, [[0, 0, 1], [0, 1, 0], [1, 0, 0]])

    def test_the_list_may_change_behind_the_first_step(self):
        programs = [counting(1)] * 2
        found = weavings(programs)
        self.assertEqual(next(found), [0, 1])
        programs.clear()
        self.assertEqual(list(found), [[1, 0]])

    def test_number_of_positions(self):
        self.check_raises(TooMany, lambda programs: next(weavings(programs)), TOO_MANY)

    def test_by_name(self):
        self.assertEqual(list(weavings(programs=[counting(1)])), [[0]])


class ExamplesTest(unittest.TestCase):
    def test_chain(self):
        P, Q = example_programs()
        self.assertEqual(chain([P, Q], [0, 0, 1], [1, 0, 0]), [[0, 0, 1], [0, 1, 0], [1, 0, 0]])

    def test_fault_and_woven(self):
        P, Q = example_programs()
        self.assertEqual([fault([P, Q], [0, 1, 1]), woven([P, Q], (0, 0), [0, 1, 0])],
                         [2, [(0, 0), (0, 0), (0, 1), (0, 0)]])


if __name__ == "__main__":
    unittest.main()
