import copy
import unittest
from itertools import permutations, product

from pauseplaces.errors import BadState, BadWalk, Losing, TooMany
from pauseplaces.grids import grid, part, walked
from pauseplaces.programs import Program
from tests.cases import Case
from tests.plain import (
    after_rows, all_weavings, blocker, counting, differ_in_one_exchange, example_programs,
    is_right, order_end, order_ends, positions, rng, row, some_programs, some_state, stretch_rows,
    three_programs, weave)
from tests.things import ANYTHING, HUGE

NONE = Program((2, 2), ())
LOSING = Program((2, 2), (row("add", 0, 1), row("set", 0, 0)))
FINE = counting(1, shape=(2, 2))
# 10 * 10 * 4 and 9 * 9 * 5 positions.
MOST = [counting(9, range(1, 9))] * 2 + [counting(3, (1, 2))]
TOO_MANY = [counting(8, range(1, 8))] * 2 + [counting(4, (1, 2, 3))]


def prefixes_go_though_rows_do_not():
    """Two programs whose rows do not go one by one, but whose prefixes up to the pauses do."""
    twice = Program((2, 2), (row("add", 0, 1),) * 4, pauses=(2,))
    return [twice, blocker(2)]


def each_choice(seed, many=250):
    """Lists of up to four programs, each with a start."""
    source = rng(seed)
    found = [([], (0, 1)), ([NONE], (1, 1)), ([NONE, NONE], (0, 0)), ([NONE, FINE, NONE], (0, 0)),
             ([FINE] * 4, (1, 0)), (prefixes_go_though_rows_do_not(), (0, 0)),
             ([blocker(2, (1,)), counting(2, (1,), (2, 2))] * 2, (0, 0))]
    found += [(three_programs(), start) for start in product((0, 1), repeat=3)]
    found += [([one, other], (0, 0, 0)) for one, other in permutations(three_programs(), 2)]
    for _ in range(many):
        shape = source.choice([(2,), (2, 2), (3, 2), (2, 2, 2), (4, 2, 2)])
        count = source.randint(1, 4)
        programs = some_programs(source, shape, count, 5 if count < 4 else 3, most_pauses=2)
        found.append((programs, some_state(source, shape)))
    return found


class ChoiceCase(Case):
    def check_errors(self, call, *rest):
        """TooMany, Losing and BadState, in this sequence, whatever else is wrong."""
        self.check_raises(TooMany, call, TOO_MANY + [LOSING], 7, *rest)
        self.check_raises(Losing, call, [FINE, LOSING, LOSING], 7, *rest, fields={"index": 1})
        self.check_raises(Losing, call, [LOSING], (0, 0), *rest, fields={"index": 0})
        for losing in [row("scale", 0, 0), row("copy", 0, 1), row("set", 1, 1, when=((0, 1),))]:
            programs = [FINE, NONE, Program((2, 2), (losing, row("add", 0, 1)))]
            self.check_raises(Losing, call, programs, (0, 0), *rest, fields={"index": 2})
        for thing in ANYTHING + [(2, 0), (0, True), (0, 0, 0), (-1, 0)]:
            if thing != (0, 0):
                self.check_raises(BadState, call, [FINE, NONE], thing, *rest)


class GridTest(ChoiceCase):
    def test_against_all_orders(self):
        seen = {True: 0, False: 0}
        for programs, start in each_choice(40):
            before = copy.deepcopy((programs, start))
            found = grid(programs, start)
            self.assertEqual((programs, start), before)
            right = is_right(programs, start)
            seen[right] += 1
            if right:
                self.assertIs(type(found), dict)
                self.assertEqual(found, {places: min(order_ends(programs, start, places))
                                         for places in positions(programs)})
            else:
                self.assertIsNone(found)
        self.assertGreater(min(seen.values()), 40, seen)

    def test_every_beginning_leads_to_the_state(self):
        for programs, start in each_choice(41, 60):
            found = grid(programs, start)
            if found is not None:
                for weaving in all_weavings(programs)[:60]:
                    states = weave(programs, start, weaving)
                    for many, state in enumerate(states):
                        places = tuple(program.places[weaving[:many].count(k)]
                                       for k, program in enumerate(programs))
                        self.assertEqual(found[places], state)

    def test_without_programs(self):
        self.assertEqual(grid([], (0, 1)), {(): (0, 1)})
        self.assertEqual(grid([NONE], (0, 1)), {(0,): (0, 1)})
        self.assertEqual(grid([NONE, NONE], (0, 1)), {(0, 0): (0, 1)})

    def test_three_of_which_each_two_go(self):
        programs = three_programs()
        start = (0, 0, 0)
        self.assertIsNone(grid(programs, start))
        for two in permutations(programs, 2):
            self.assertIsNotNone(grid(list(two), start))
        self.assertEqual(order_end(programs, start, (1, 1, 1), (0, 2, 1)), (1, 1, 1))
        self.assertEqual(order_end(programs, start, (1, 1, 1), (1, 0, 2)), (0, 1, 1))

    def test_prefixes_that_go_though_rows_do_not(self):
        programs = prefixes_go_though_rows_do_not()
        self.assertIsNotNone(grid(programs, (0, 0)))
        finer = [counting(4, (1, 2), (2, 2)), blocker(2, (1,))]
        self.assertIsNone(grid(finer, (0, 0)))

    def test_depends_on_the_start(self):
        programs = [counting(1, shape=(3, 2)), blocker(1, shape=(3, 2))]
        self.assertEqual([grid(programs, (u, 0)) is None for u in range(3)], [True, False, True])

    def test_number_of_positions(self):
        self.assertEqual(len(grid(MOST, (0,))), 400)

    def test_new_dicts(self):
        grid([FINE], (0, 0)).clear()
        self.assertEqual(grid([FINE], (0, 0)), {(0,): (0, 0), (1,): (1, 0)})

    def test_errors(self):
        self.check_errors(grid)

    def test_by_name(self):
        self.assertEqual(grid(start=(0, 0), programs=[NONE]), {(0,): (0, 0)})

    def test_examples(self):
        P, Q = example_programs()
        self.assertEqual([grid([P, Q], (0, 0)), part([P, Q], (0, 0))[0]], [None, (1, 1)])
        self.assertEqual(grid([FINE, Q], (0, 0)),
                         {(0, 0): (0, 0), (0, 1): (0, 1), (1, 0): (1, 0), (1, 1): (1, 1)})


class PartTest(ChoiceCase):
    def check_least(self, programs, start, places):
        """The position clashes, and each one below it goes."""
        self.assertIn(places, positions(programs))
        self.assertGreater(len(order_ends(programs, start, places)), 1)
        for below in positions(programs):
            if below != places and all(a <= b for a, b in zip(below, places)):
                self.assertEqual(len(order_ends(programs, start, below)), 1)

    def check_orders(self, programs, start, places, one, other):
        for order in (one, other):
            self.assertIs(type(order), tuple)
            self.assertEqual(sorted(order), list(range(len(programs))))
            self.assertNotEqual(places[order[-1]], 0)
        self.assertNotEqual(one[-1], other[-1])
        self.assertNotEqual(order_end(programs, start, places, one),
                            order_end(programs, start, places, other))

    def check_weavings(self, programs, start, one, other):
        counts = sorted(k for k, program in enumerate(programs) for _ in program.places[1:])
        for weaving in (one, other):
            self.assertIs(type(weaving), list)
            self.assertEqual(sorted(weaving), counts)
        self.assertTrue(differ_in_one_exchange(one, other), (one, other))
        self.assertNotEqual(weave(programs, start, one)[-1], weave(programs, start, other)[-1])

    def check(self, programs, start):
        before = copy.deepcopy((programs, start))
        found = part(programs, start)
        self.assertEqual((programs, start), before)
        if is_right(programs, start):
            self.assertIsNone(found)
            return 0
        self.assertIs(type(found), tuple)
        places, one, other, weaving, other_weaving = found
        self.check_least(programs, start, places)
        self.check_orders(programs, start, places, one, other)
        self.check_weavings(programs, start, weaving, other_weaving)
        return 1

    def test_some_choices(self):
        parts = [self.check(programs, start) for programs, start in each_choice(42)]
        self.assertGreater(sum(parts), 40)

    def test_three_of_which_each_two_go(self):
        self.assertEqual(self.check(three_programs(), (0, 0, 0)), 1)
        self.assertEqual(part(three_programs(), (0, 0, 0))[0], (1, 1, 1))

    def test_beside_programs_that_do_not_matter(self):
        for programs in permutations([blocker(2, (1,)), counting(2, (1,), (2, 2)), NONE, NONE]):
            self.assertEqual(self.check(list(programs), (0, 0)), 1)

    def test_one_program_several_times(self):
        both = Program((2, 2), (row("mix", 0, 1, 1), row("add", 1, 1)), pauses=(1,))
        for many in (2, 3, 4):
            self.assertEqual(self.check([both] * many, (0, 0)), 1)

    def test_without_programs(self):
        self.assertIsNone(part([], (0, 1)))
        self.assertIsNone(part([NONE], (0, 1)))

    def test_many_positions(self):
        self.assertIsNone(part(MOST, (0,)))
        shape = (2, 2)
        programs = [counting(9, range(1, 9), shape)] * 2 + [blocker(3, (1, 2))]
        self.assertEqual(self.check(programs, (0, 0)), 1)

    def test_new_lists(self):
        P, Q = example_programs()
        before = copy.deepcopy(part([P, Q], (0, 0)))
        part([P, Q], (0, 0))[3].clear()
        part([P, Q], (0, 0))[4].clear()
        self.assertEqual(part([P, Q], (0, 0)), before)

    def test_errors(self):
        self.check_errors(part)

    def test_by_name(self):
        self.assertIsNone(part(start=(0, 0), programs=[FINE]))


class WalkedTest(ChoiceCase):
    def plainly(self, programs, start, walk):
        """The states of a walk: each step back reverses, one by one, what rows do to all states."""
        executed = [0] * len(programs)
        states = [start]
        for k, way in walk:
            program = programs[k]
            shape = program.shape
            rows = stretch_rows(program, executed[k] if way == 1 else executed[k] - 1)
            if way == 1:
                states.append(after_rows(shape, rows, states[-1]))
            else:
                every = product(*[range(base) for base in shape])
                states.append([s for s in every if after_rows(shape, rows, s) == states[-1]][0])
            executed[k] += way
        return states, executed

    def some_walk(self, source, programs, length):
        executed = [0] * len(programs)
        walk = []
        for _ in range(length):
            moves = [(k, way) for k, program in enumerate(programs) for way in (1, -1)
                     if 0 <= executed[k] + way < len(program.places)]
            if not moves:
                return walk
            move = source.choice(moves)
            executed[move[0]] += move[1]
            walk.append(move)
        return walk

    def test_some_walks(self):
        source = rng(43)
        for programs, start in each_choice(44, 100):
            for length in (0, 1, 4, 15):
                walk = self.some_walk(source, programs, length)
                before = copy.deepcopy((programs, start, walk))
                found = walked(programs, start, walk)
                self.assertEqual((programs, start, walk), before)
                states, executed = self.plainly(programs, start, walk)
                self.assertEqual(found, states)
                right = grid(programs, start)
                if right is not None:
                    places = tuple(program.places[at] for program, at in zip(programs, executed))
                    self.assertEqual(found[-1], right[places])

    def test_the_choice_need_not_be_right(self):
        P, Q = example_programs()
        walk = [(0, 1), (1, 1), (0, -1), (0, 1), (0, 1), (1, -1)]
        self.assertEqual(walked([P, Q], (0, 0), walk),
                         [(0, 0), (0, 0), (0, 1), (1, 1), (0, 1), (0, 0), (0, 1)])

    def check_bad(self, index, programs, walk):
        self.check_raises(BadWalk, walked, programs, (0, 0), walk, fields={"index": index})

    def test_beyond_an_end_and_before_place_0(self):
        two = [counting(2, (1,), (2, 2)), FINE, NONE]
        self.check_bad(0, two, [(0, -1)])
        self.check_bad(2, two, [(0, 1), (0, 1), (0, 1)])
        self.check_bad(1, two, [(1, 1), (1, 1)])
        self.check_bad(2, two, [(1, 1), (1, -1), (1, -1), (1, 1)])
        self.check_bad(1, two, [(1, 1), (0, -1)])
        self.check_bad(0, two, [(2, 1)])
        self.check_bad(0, two, [(2, -1)])
        self.check_bad(2, two, [(0, 1), (0, 1), (0, -2)])
        self.assertEqual(len(walked(two, (0, 0), [(0, 1), (0, 1), (0, -1), (0, 1), (0, -1), (0, -1)])), 7)

    def test_no_pairs(self):
        two = [counting(2, (1,), (2, 2)), FINE]
        for pair in ANYTHING + [(0, 0), (0, 2), (0, -2), (2, 1), (-1, 1), (HUGE, 1), (0, HUGE), [0, 1],
                                (True, 1), (False, 1), (0, True), (1, True), (0, "1"), ("0", 1), (0,),
                                (0, 1, 1), (None, 1), (0, None), ((0,), 1), ([0], 1), (0, [1])]:
            self.check_bad(0, two, [pair])
            self.check_bad(1, two, [(1, 1), pair, (0, 1)])
            self.check_bad(2, two, [(1, 1), (1, -1), pair, pair])

    def test_any_object(self):
        for thing in ANYTHING:
            if thing == []:
                self.assertEqual(walked([FINE], (0, 0), thing), [(0, 0)])
            else:
                self.check_bad(0, [FINE], thing)
        self.check_bad(0, [FINE], ((0, 1),))

    def test_without_programs(self):
        self.assertEqual(walked([], (0, 1), []), [(0, 1)])
        self.check_bad(0, [], [(0, 1)])

    def test_new_lists(self):
        walk = [(0, 1)]
        walked([FINE], (0, 0), walk).clear()
        self.assertEqual(walked([FINE], (0, 0), walk), [(0, 0), (1, 0)])

    def test_errors(self):
        self.check_errors(walked, [(9, 9)])
        self.check_errors(walked, None)

    def test_number_of_positions(self):
        self.assertEqual(walked(MOST, (0,), [(0, 1), (1, 1)]), [(0,), (1,), (0,)])

    def test_by_name(self):
        self.assertEqual(walked(walk=[(0, 1)], start=(0, 0), programs=[FINE]), [(0, 0), (1, 0)])


if __name__ == "__main__":
    unittest.main()
