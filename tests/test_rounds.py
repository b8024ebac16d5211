import copy
import unittest
from itertools import product

from pauseplaces.errors import BadState, BadWeaving, Losing, TooMany
from pauseplaces.grids import part
from pauseplaces.programs import Program
from pauseplaces.rounds import round_states, round_woven, rounds_part, whole_way
from tests.cases import Case
from tests.plain import (
    after_rows, all_states, blocker, counting, differ_in_one_exchange, is_right, point_21_at_the_end, rng,
    round_closure, row, some_programs, some_state, stretch_rows, subsets, three_programs, weave_rounds)
from tests.things import ANYTHING, HUGE

NONE = Program((2, 2), ())
LOSING = Program((2, 2), (row("add", 0, 1), row("set", 0, 0)))
FINE = counting(1, shape=(2, 2))
# 5 * 5 * 4 and 3 * 5 * 7 positions.
MOST = [counting(4, (1, 2, 3))] * 2 + [counting(3, (1, 2))]
TOO_MANY = [counting(2, (1,)), counting(4, (1, 2, 3)), counting(6, range(1, 6))]


def point_23():
    """The programs P and Q of point 23."""
    return [Program((2, 3), (row("add", 1, 1),)), Program((2, 3), (row("add", 0, 1, when=((1, 2),)),))]


def each_choice(seed, many):
    """Lists of programs, each with a start and with each list of some in rounds."""
    plain = [([], (0, 1)), ([NONE], (1, 1)), ([NONE, FINE, NONE], (0, 0)), ([FINE] * 4, (0, 1)),
             (point_23(), (0, 0)), (point_23()[::-1], (1, 2)), (three_programs(), (0, 0, 0)),
             ([counting(2, (1,), (5, 2)), counting(1, shape=(5, 2))], (3, 1))]
    source = rng(seed)
    for _ in range(many):
        shape = source.choice([(2,), (4,), (2, 2), (3, 2), (5,)])
        programs = some_programs(source, shape, source.randint(1, 3), 3, most_pauses=1)
        plain.append((programs, some_state(source, shape)))
    found = []
    for programs, start in plain:
        able = [k for k, program in enumerate(programs) if len(program) > 0]
        found += [(programs, start, list(rounds)) for rounds in subsets(able)]
    return found


def counted_states(programs, start, rounds, most):
    """The states of all beginnings in rounds, by how many entries each program has: at most so many rounds."""
    limits = [(len(program.places) - 1) * (most if k in rounds else 1) for k, program in enumerate(programs)]
    found = {(0,) * len(programs): {start}}
    for counts in product(*[range(limit + 1) for limit in limits]):
        here = found.setdefault(counts, set())
        for k, many in enumerate(counts):
            if many > 0:
                rows = stretch_rows(programs[k], (many - 1) % (len(programs[k].places) - 1))
                ahead = found[counts[:k] + (many - 1,) + counts[k + 1:]]
                here |= {after_rows(programs[k].shape, rows, state) for state in ahead}
    return found


class RoundsCase(Case):
    def check_errors(self, call, *rest):
        """TooMany, Losing and BadState, in this sequence, whatever else is wrong."""
        self.check_raises(TooMany, call, TOO_MANY + [LOSING], 7, *rest)
        self.check_raises(TooMany, call, TOO_MANY, (0,), *rest)
        self.check_raises(TooMany, call, MOST + [counting(1)], (0,), *rest)
        self.check_raises(Losing, call, [FINE, LOSING, LOSING], 7, *rest, fields={"index": 1})
        self.check_raises(Losing, call, [LOSING], (0, 0), *rest, fields={"index": 0})
        self.check_raises(Losing, call, point_21_at_the_end(), (0,), *rest, fields={"index": 0})
        for thing in ANYTHING + [(2, 0), (0, True), (True, 0), (0, 0, 0), (-1, 0)]:
            if thing != (0, 0):
                self.check_raises(BadState, call, [FINE, NONE], thing, *rest)


class StatesTest(RoundsCase):
    def check(self, programs, start, rounds):
        before = copy.deepcopy((programs, start, rounds))
        found = round_states(programs, start, rounds)
        self.assertEqual((programs, start, rounds), before)
        self.assertIs(type(found), list)
        self.assertEqual(found, sorted(round_closure(programs, start, rounds)))
        return len(found)

    def test_against_all_executions(self):
        seen = [self.check(*things) for things in each_choice(90, 120)]
        for many in (1, 2, 3, 4):
            self.assertGreater(seen.count(many), 10)

    def test_no_program_in_rounds(self):
        for programs in ([], [NONE], [FINE], point_23()):
            start = (0, 1)
            self.assertEqual(round_states(programs, start, []), [start])

    def test_programs_that_come_back(self):
        back = Program((2, 2), (row("add", 0, 1), row("add", 0, 1)), pauses=(1,))
        self.assertEqual(round_states([back, FINE], (0, 1), [0]), [(0, 1)])
        self.assertEqual(round_states([back, FINE], (0, 1), [1]), [(0, 1), (1, 1)])
        self.assertEqual(round_states([counting(3, shape=(4, 2))], (2, 1), [0]),
                         [(0, 1), (1, 1), (2, 1), (3, 1)])

    def test_whole_programs_alone(self):
        # Paused after its first row the program would be at (1, 0).
        self.assertEqual(round_states([counting(2, (1,), (4, 2))], (0, 0), [0]), [(0, 0), (2, 0)])

    def test_all_states(self):
        both = [counting(1, shape=(8, 8)), Program((8, 8), (row("add", 1, 3),))]
        self.assertEqual(round_states(both, (3, 5), [0, 1]), all_states((8, 8)))
        self.assertEqual(round_states([counting(1, shape=(64,))], (63,), [0]), all_states((64,)))

    def test_number_of_positions(self):
        self.assertEqual(self.check(MOST, (0,), [0, 1, 2]), 2)

    def test_new_lists(self):
        round_states([FINE], (0, 0), [0]).clear()
        self.assertEqual(round_states([FINE], (0, 0), [0]), [(0, 0), (1, 0)])

    def test_errors(self):
        self.check_errors(round_states, [0])
        self.check_errors(round_states, [])

    def test_by_name(self):
        self.assertEqual(round_states(rounds=[0], start=(0, 1), programs=[FINE]), [(0, 1), (1, 1)])

    def test_example(self):
        P, Q = point_23()
        self.assertEqual(
            [part([P, Q], (0, 0)), round_states([P, Q], (0, 0), [0]),
             round_woven([P, Q], (0, 0), [0], [0, 0, 1])],
            [None, [(0, 0), (0, 1), (0, 2)], [(0, 0), (0, 1), (0, 2), (1, 2)]])


class WayTest(RoundsCase):
    def check(self, programs, start, rounds, state):
        before = copy.deepcopy((programs, start, rounds, state))
        found = whole_way(programs, start, rounds, state)
        self.assertEqual((programs, start, rounds, state), before)
        if found is None:
            return False
        self.assertIs(type(found), list)
        end = start
        for k in found:
            self.assertIn(k, rounds)
            end = after_rows(programs[k].shape, programs[k].rows, end)
        self.assertEqual(end, state)
        return True

    def test_each_state(self):
        for programs, start, rounds in each_choice(91, 60):
            expected = round_closure(programs, start, rounds)
            for state in all_states(programs[0].shape if programs else (2, 2)):
                self.assertEqual(self.check(programs, start, rounds, state), state in expected)

    def test_long_ways(self):
        programs = [counting(1, shape=(64,)), counting(2, shape=(64,))]
        for state in all_states((64,)):
            self.assertTrue(self.check(programs, (1,), [0], state))
            self.assertTrue(self.check(programs, (1,), [0, 1], state))
            self.assertEqual(self.check(programs, (1,), [1], state), state[0] % 2 == 1)

    def test_any_object(self):
        for thing in ANYTHING + [(True, 0), (1, False), [1, 0], (2, 0), (1, 0, 0), ((1,), 0), ([1], 0)]:
            if thing != (0, 0):
                self.assertIsNone(whole_way([FINE], (0, 0), [0], thing), thing)
        self.assertEqual(whole_way([FINE], (0, 0), [0], (1, 0)), [0])

    def test_without_programs(self):
        self.assertEqual(whole_way([], (0, 1), [], (0, 1)), [])
        self.assertIsNone(whole_way([], (0, 1), [], (1, 1)))
        self.assertEqual(whole_way([NONE, FINE], (0, 1), [1], (0, 1)), [])

    def test_number_of_positions(self):
        self.assertTrue(self.check(MOST, (0,), [2], (1,)))

    def test_new_lists(self):
        whole_way([FINE], (0, 0), [0], (1, 0)).clear()
        self.assertEqual(whole_way([FINE], (0, 0), [0], (1, 0)), [0])

    def test_errors(self):
        for state in [(0, 0), None, [[]]]:
            self.check_errors(whole_way, [0], state)

    def test_by_name(self):
        self.assertEqual(whole_way(state=(1, 1), rounds=[0], start=(0, 1), programs=[FINE]), [0])


class PartTest(RoundsCase):
    def check(self, programs, start, rounds):
        before = copy.deepcopy((programs, start, rounds))
        found = rounds_part(programs, start, rounds)
        self.assertEqual((programs, start, rounds), before)
        right = all(is_right(programs, state) for state in round_closure(programs, start, rounds))
        self.assertEqual(found is None, right)
        if found is None:
            return True
        self.assertIs(type(found), tuple)
        one, other = found
        for entries in found:
            self.assertIs(type(entries), list)
            for k, program in enumerate(programs):
                if k not in rounds:
                    self.assertLessEqual(entries.count(k), len(program.places) - 1)
        self.assertTrue(differ_in_one_exchange(one, other), found)
        self.assertNotEqual(weave_rounds(programs, start, one)[-1], weave_rounds(programs, start, other)[-1])
        return False

    def test_some_choices(self):
        seen = []
        for programs, start, rounds in each_choice(92, 200):
            seen.append((self.check(programs, start, rounds), is_right(programs, start)))
        for told in [(True, True), (False, True), (False, False)]:
            self.assertGreater(seen.count(told), 10)
        self.assertEqual(seen.count((True, False)), 0)

    def test_against_all_beginnings(self):
        for programs, start, rounds in each_choice(93, 40):
            # No way to one of at most 6 states needs more than 5 whole rounds of a program.
            if len(programs) < 3 and (not programs or len(all_states(programs[0].shape)) <= 6):
                found = counted_states(programs, start, rounds, 6)
                right = all(len(ends) == 1 for ends in found.values())
                self.assertEqual(rounds_part(programs, start, rounds) is None, right)

    def test_right_for_one_run_and_not_for_rounds(self):
        for programs, rounds in [(point_23(), [0]), (point_23()[::-1], [1])]:
            self.assertIsNone(part(programs, (0, 0)))
            self.assertFalse(self.check(programs, (0, 0), rounds))
            self.assertFalse(self.check(programs, (0, 0), [0, 1]))
            self.assertTrue(self.check(programs, (0, 0), []))
            self.assertTrue(self.check(programs, (0, 0), [1 - rounds[0]]))

    def test_no_program_in_rounds(self):
        self.assertTrue(self.check([], (0, 1), []))
        self.assertTrue(self.check([NONE], (0, 1), []))
        self.assertFalse(self.check([FINE, blocker(1)], (0, 0), []))
        self.assertFalse(self.check(three_programs(), (0, 0, 0), []))

    def test_long_ways(self):
        programs = [counting(2, (1,), (16, 2)), Program((16, 2), (row("add", 1, 1, when=((0, 15),)),))]
        self.assertFalse(self.check(programs, (0, 0), [0]))
        self.assertFalse(self.check(programs, (1, 0), [0]))
        self.assertTrue(self.check(programs, (0, 0), [1]))
        self.assertFalse(self.check(programs, (15, 0), []))

    def test_number_of_positions(self):
        self.assertTrue(self.check(MOST, (0,), [0, 1, 2]))

    def test_new_lists(self):
        before = copy.deepcopy(rounds_part(point_23(), (0, 0), [0]))
        for entries in rounds_part(point_23(), (0, 0), [0]):
            entries.clear()
        self.assertEqual(rounds_part(point_23(), (0, 0), [0]), before)

    def test_errors(self):
        self.check_errors(rounds_part, [0])
        self.check_errors(rounds_part, [])

    def test_by_name(self):
        self.assertIsNone(rounds_part(rounds=[0], start=(0, 1), programs=[FINE]))


class WovenTest(RoundsCase):
    def check(self, programs, start, rounds, beginning):
        before = copy.deepcopy((programs, start, rounds, beginning))
        found = round_woven(programs, start, rounds, beginning)
        self.assertEqual((programs, start, rounds, beginning), before)
        self.assertIs(type(found), list)
        self.assertEqual(found, weave_rounds(programs, start, beginning))

    def check_bad(self, index, programs, rounds, thing):
        start = (0,) * len(programs[0].shape) if programs else (0, 1)
        self.check_raises(BadWeaving, round_woven, programs, start, rounds, thing, fields={"index": index})

    def test_some_beginnings(self):
        source = rng(94)
        for programs, start, rounds in each_choice(95, 60):
            for length in (0, 1, 5, 20):
                left = [len(program.places) - 1 for program in programs]
                beginning = []
                for _ in range(length):
                    able = [k for k in range(len(programs)) if k in rounds or left[k] > 0]
                    if able:
                        beginning.append(source.choice(able))
                        left[beginning[-1]] -= 1
                self.check(programs, start, rounds, beginning)

    def test_behind_the_last_stretch(self):
        programs = [counting(3, (2,), (8, 2)), counting(2, (1,), (8, 2))]
        self.assertEqual(round_woven(programs, (0, 0), [0], [0, 0, 0, 1, 0, 1, 0]),
                         [(k, 0) for k in (0, 2, 3, 5, 6, 7, 0, 2)])
        self.check_bad(2, programs, [0], [1, 1, 1])
        self.check_bad(3, programs, [1], [0, 1, 0, 0, 1])
        self.check_bad(2, programs, [], [0, 0, 0])
        self.check_bad(5, programs, [0], [1, 0, 0, 0, 1, 1, 0])
        self.check(programs, (0, 0), [0, 1], [0] * 30 + [1] * 30)

    def test_programs_without_rows(self):
        self.check_bad(0, [NONE, FINE], [1], [0])
        self.check_bad(3, [NONE, FINE], [1], [1, 1, 1, 0])
        self.check_bad(0, [], [], [0])
        self.assertEqual(round_woven([], (0, 1), [], []), [(0, 1)])

    def test_odd_entries(self):
        for odd in [True, False, None, "0", "", (0,), [0], (), -1, -HUGE, HUGE, 2]:
            for rounds in ([], [0], [0, 1]):
                self.check_bad(0, [FINE, FINE], rounds, [odd])
                self.check_bad(2, [FINE, FINE], rounds, [1, 0, odd, odd])
            self.check_bad(4, [FINE, FINE], [0], [0, 0, 0, 1, odd])

    def test_any_object(self):
        for thing in ANYTHING + [[0], [0, 0], [0, None]]:
            expected = {"[]": None, "[0]": None, "[0, 0]": None, "[0, None]": 1}.get(repr(thing), 0)
            if expected is not None:
                self.check_bad(expected, [FINE], [0], thing)
        self.check_bad(0, [FINE], [0], (0,))
        self.check_bad(0, [FINE], [], (0,))

    def test_number_of_positions(self):
        self.check(MOST, (0,), [0, 1], [0] * 5 + [1] * 9 + [2] * 3)
        self.check_bad(3, MOST, [0, 1], [2] * 4)

    def test_new_lists(self):
        round_woven([FINE], (0, 0), [0], [0]).clear()
        self.assertEqual(round_woven([FINE], (0, 0), [0], [0]), [(0, 0), (1, 0)])

    def test_errors(self):
        for thing in ([0], [9], None):
            self.check_errors(round_woven, [0], thing)

    def test_by_name(self):
        self.assertEqual(round_woven(beginning=[0], rounds=[0], start=(0, 1), programs=[FINE]),
                         [(0, 1), (1, 1)])


if __name__ == "__main__":
    unittest.main()
