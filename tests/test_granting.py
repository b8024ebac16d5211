import copy
import unittest
from itertools import product

from pauseplaces.benches import Bench
from pauseplaces.errors import (
    BadName, BadPauses, BadShape, Clash, Full, HasPause, Losing, NameTaken, NoName, NoPause, PauseError, Spent,
    Standing, TooMany)
from pauseplaces.granting import give_up, grant, grants, let_in_with
from pauseplaces.programs import Program
from tests.plain import (
    blocker, counting, example_programs, is_right, order_end, order_ends, positions, rng, row, some_program, some_state)
from tests.plain_bench import (
    bench_with, BenchCase, FINE, LOSING, MethodsAlone, NO_NAMES, NONE, open_programs, OTHER, seen, TWICE)
from tests.things import ANYTHING, HUGE

LONGER = counting(9, range(1, 9), (2, 2))


def doubled():
    """The program PP of the interface's examples, and Q."""
    P, Q = example_programs()
    return Program((2, 2), P.rows * 2, pauses=(1, 2, 3)), Q


def plain(program):
    return Program(program.shape, program.rows)


def with_wishes(program, wishes):
    return Program(program.shape, program.rows, pauses=wishes)


def granted_by(bench, program):
    """The wishes of a new program of which all positions go from the base."""
    found = []
    programs = open_programs(bench) + [program]
    for wish in program.pauses:
        at = product(*[one.places for one in open_programs(bench)], [wish])
        if all(len(order_ends(programs, bench.base(), places)) == 1 for places in at):
            found.append(wish)
    return tuple(found)


def some_benches(seed, many):
    """Benches with up to three open programs somewhere, each with a new program."""
    source = rng(seed)
    found = []
    for _ in range(many):
        shape = source.choice([(2, 2), (3, 2), (2, 2, 2), (4,)])
        bench = Bench(shape, some_state(source, shape))
        for name in "bca":
            try:
                bench.let_in(name, some_program(source, shape, 4, most_pauses=2))
            except PauseError:
                continue
            bench.step(name, times=source.randrange(len(bench.program(name).places)))
        if len(bench) == 3 and source.random() < 0.5:
            bench.take_back(source.choice("bca"))
        found.append((bench, some_program(source, shape, 7)))
    return found


class GrantingCase(BenchCase):
    def check_evidence(self, bench, program, wish, found):
        """A position with the wish that clashes, and two of its orders that lead to different states."""
        self.assertIs(type(found), tuple)
        places, one, other = found
        programs = open_programs(bench) + [program]
        self.assertIn(places, positions(programs))
        self.assertEqual(places[-1], wish)
        for order in (one, other):
            self.assertIs(type(order), tuple)
            self.assertEqual(sorted(order), list(range(len(programs))))
        self.assertNotEqual(order_end(programs, bench.base(), places, one),
                            order_end(programs, bench.base(), places, other))


class GrantsTest(GrantingCase):
    def check(self, bench, program):
        before = seen(bench), copy.deepcopy(program)
        granted, refused = found = grants(bench, program)
        self.assertEqual((seen(bench), program), before)
        self.assertEqual((type(found), type(granted), type(refused)), (tuple, tuple, dict))
        self.assertEqual(granted, granted_by(bench, program))
        self.assertEqual(sorted(granted + tuple(refused)), list(program.pauses))
        for wish in refused:
            self.check_evidence(bench, program, wish, refused[wish])
        return len(granted), len(refused)

    def test_some_benches(self):
        seen_wishes = [0, 0, 0]
        for bench, program in some_benches(110, 600):
            if is_right(open_programs(bench) + [plain(program)], bench.base()):
                many = self.check(MethodsAlone(bench), program)
                self.assertEqual(self.check(bench, program), many)
                seen_wishes = [seen_wishes[0] + many[0], seen_wishes[1] + many[1], seen_wishes[2]]
            else:
                self.check_part(bench, "", plain(program), grants, bench, program)
                seen_wishes[2] += 1
        self.assertGreater(min(seen_wishes), 20, seen_wishes)

    def test_three_of_which_each_two_go(self):
        # With both others at their ends the wish clashes, and with each of them alone it goes.
        shape = (2, 2, 2)
        bench = bench_with(Program(shape, (row("add", 1, 1),)), Program(shape, (row("add", 2, 1),)), shape=shape)
        program = Program(shape, (row("mix", 0, 1, 1, when=((2, 1),)),) * 2, pauses=(1,))
        self.assertEqual(self.check(bench, program), (0, 1))
        self.assertEqual(grants(bench, program)[1][1][0], (1, 1, 1))

    def test_from_the_base(self):
        bench = bench_with(TWICE)
        program = blocker(2, (1,))
        bench.set_pauses("a", ())
        self.assertEqual(self.check(bench, program), (1, 0))
        bench.set_pauses("a", (1,))
        bench.step("a")
        self.check_part(bench, "", blocker(1), grants, bench, blocker(1))
        self.assertEqual(self.check(bench, program), (0, 1))
        bench.step("a")
        self.assertEqual(self.check(bench, program), (0, 1))

    def test_without_open_programs(self):
        self.assertEqual(self.check(Bench((2, 2), (0, 0)), LONGER), (8, 0))
        self.assertEqual(grants(Bench((2, 2), (0, 0)), NONE), ((), {}))
        self.assertEqual(self.check(bench_with(NONE, NONE, NONE), LONGER), (8, 0))

    def test_each_wish_by_itself(self):
        # With its wishes together the program has more than 400 positions.
        bench = bench_with(LONGER, LONGER)
        self.assertEqual(self.check(bench, counting(5, (1, 2, 3, 4), (2, 2))), (4, 0))
        self.check_refused(bench, TooMany, bench.let_in, "c", counting(5, (1, 2, 3, 4), (2, 2)))

    def test_just_within_the_number_of_positions(self):
        # 200 positions, 400 with the new program, 600 with one of its wishes.
        bench = bench_with(LONGER, counting(4, (1, 2, 3), (2, 2)), counting(3, (1, 2), (2, 2)))
        self.assertEqual(self.check(bench, counting(2, (1,), (2, 2))), (1, 0))
        bench = bench_with(LONGER, LONGER, TWICE)
        self.check_refused(bench, TooMany, grants, bench, FINE)
        self.check_refused(bench, TooMany, grants, bench, blocker(1))
        self.assertEqual(grants(bench, NONE), ((), {}))

    def test_errors(self):
        bench = bench_with(FINE, NONE, FINE, NONE)
        for program in (NONE, FINE, LOSING, counting(1), blocker(1)):
            self.check_refused(bench, Full, grants, bench, program)
        bench.take_back("b")
        for program in (counting(1), Program((2, 2, 2), (row("set", 0, 0),)), Program((2,), ())):
            self.check_refused(bench, BadShape, grants, bench, program)
        self.check_refused(bench, Losing, grants, bench, LOSING, fields={"index": 0})
        self.check_part(bench, "", blocker(1), grants, bench, blocker(1))
        bench = bench_with(LONGER, LONGER, TWICE)
        self.check_refused(bench, Losing, grants, bench, LOSING, fields={"index": 0})

    def test_not_spent(self):
        bench = bench_with(FINE)
        bench.set_count(30)
        self.assertEqual(grants(bench, TWICE), ((1,), {}))

    def test_new_dicts(self):
        PP, Q = doubled()
        bench = bench_with(Q)
        before = copy.deepcopy(grants(bench, PP))
        grants(bench, PP)[1].clear()
        self.assertEqual(grants(bench, PP), before)

    def test_by_name(self):
        self.assertEqual(grants(program=TWICE, bench=bench_with(FINE)), ((1,), {}))

    def test_example(self):
        PP, Q = doubled()
        bench = Bench((2, 2), (0, 0))
        bench.let_in('q', Q)
        self.assertEqual([sorted(grants(bench, PP)[1]), let_in_with(bench, 'p', PP), bench.where()],
                         [[1, 2], (3,), {'q': 0, 'p': 0}])


class LetInWithTest(GrantingCase):
    def test_some_benches(self):
        seen_sizes = []
        for bench, program in some_benches(111, 200):
            expected = bench.copy()
            if is_right(open_programs(bench) + [plain(program)], bench.base()):
                wishes = granted_by(bench, program)
                before = copy.deepcopy(program)
                alone = MethodsAlone(bench.copy())
                self.assertEqual(let_in_with(alone, "new", program), wishes)
                found = let_in_with(bench, "new", program)
                self.assertEqual((found, type(found), program), (wishes, tuple, before))
                expected.let_in("new", with_wishes(program, wishes))
                self.assertEqual(seen(bench), seen(expected))
                self.assertEqual(seen(alone), seen(expected))
                seen_sizes.append(len(wishes))
            else:
                self.check_part(bench, "new", plain(program), let_in_with, bench, "new", program)
        self.assertGreater(len(set(seen_sizes)), 4)

    def test_errors_of_let_in(self):
        bench = bench_with(FINE, NONE)
        for name in NO_NAMES:
            self.check_refused(bench, BadName, let_in_with, bench, name, LOSING)
        self.check_refused(bench, NameTaken, let_in_with, bench, "a", LOSING, fields={"name": "a"})
        self.check_refused(bench, BadShape, let_in_with, bench, "c", counting(1))
        self.check_refused(bench, Losing, let_in_with, bench, "c", LOSING, fields={"index": 0})
        self.check_part(bench, "c", blocker(1), let_in_with, bench, "c", blocker(1))
        bench.set_count(30)
        for program in (counting(1), LOSING, blocker(1), FINE):
            self.check_refused(bench, Spent, let_in_with, bench, "c", program)
        bench = bench_with(FINE, NONE, NONE, FINE)
        bench.set_count(30)
        for program in (counting(1), LOSING, blocker(1), FINE):
            self.check_refused(bench, Full, let_in_with, bench, "e", program)
            self.check_refused(bench, NameTaken, let_in_with, bench, "d", program, fields={"name": "d"})

    def test_too_many_positions(self):
        bench = bench_with(LONGER, LONGER, TWICE)
        self.check_refused(bench, TooMany, let_in_with, bench, "d", FINE)
        self.check_refused(bench, TooMany, let_in_with, bench, "d", blocker(1))
        bench.take_back("c")
        self.check_refused(bench, TooMany, let_in_with, bench, "c", counting(4, (1, 2, 3), (2, 2)))
        self.assertEqual(let_in_with(bench, "c", counting(3, (1, 2), (2, 2))), (1, 2))
        self.assertEqual(bench.count(), 4)

    def test_too_many_wishes_of_which_few_are_granted(self):
        # 10 * 10 * 5 positions with all wishes, 10 * 10 * 4 with those that can be granted.
        shape = (2, 2, 3)
        counts = counting(9, range(1, 9), shape)
        stops = Program(shape, (row("add", 2, 1), row("add", 2, 1), row("add", 1, 1, when=((0, 1),)),
                                row("add", 1, 1, when=((0, 1),))), pauses=(1, 2, 3))
        bench = bench_with(counts, counts, shape=shape)
        self.check_refused(bench, TooMany, bench.let_in, "c", stops)
        self.assertEqual(let_in_with(bench, "c", stops), (1, 2))
        self.assertEqual(bench.program("c").pauses, (1, 2))

    def test_by_name(self):
        bench = bench_with(FINE)
        self.assertEqual(let_in_with(program=TWICE, name="b", bench=bench), (1,))


class GrantTest(GrantingCase):
    def test_some_benches(self):
        told = []
        for bench, program in some_benches(112, 500):
            for name in bench.where():
                old = bench.program(name)
                for place in range(1, len(old)):
                    told.append(self.check(bench.copy(), name, old, place))
                    self.check(MethodsAlone(bench.copy()), name, old, place)
        self.assertGreater(min([told.count(word) for word in ("has", "clash", "granted")]), 20)

    def check(self, bench, name, old, place):
        if place in old.pauses:
            self.check_refused(bench, HasPause, grant, bench, name, place, fields={"place": place})
            return "has"
        pauses = tuple(sorted(old.pauses + (place,)))
        programs = [with_wishes(old, pauses) if other == name else bench.program(other) for other in bench.where()]
        if not is_right(programs, bench.base()):
            self.check_refused(bench, Clash, grant, bench, name, place, fields={"place": place})
            return "clash"
        expected = bench.copy()
        expected.set_pauses(name, pauses)
        self.assertIsNone(grant(bench, name, place))
        self.assertEqual(seen(bench), seen(expected))
        self.assertEqual(bench.program(name).pauses, pauses)
        return "granted"

    def test_no_names(self):
        bench = bench_with(TWICE)
        for thing in NO_NAMES + ["b"]:
            for place in (1, 0, None, [[]]):
                self.check_refused(bench, NoName, grant, bench, thing, place, fields={"name": thing})
                self.check_refused(bench, NoName, give_up, bench, thing, place, fields={"name": thing})

    def test_no_places(self):
        bench = bench_with(OTHER, NONE, FINE)
        for thing in ANYTHING + [3, 4, HUGE, -1, True, False, (1,), [1], "1"]:
            if thing in (1, 2) and not isinstance(thing, bool):
                self.check_refused(bench, HasPause, grant, bench, "a", thing, fields={"place": thing})
            else:
                self.check_refused(bench, BadPauses, grant, bench, "a", thing)
            self.check_refused(bench, BadPauses, grant, bench, "b", thing)
            self.check_refused(bench, BadPauses, grant, bench, "c", thing)

    def test_a_ninth_pause(self):
        bench = bench_with(counting(12, (1, 2, 3, 4, 5, 6, 8), (2, 2)))
        self.assertIsNone(grant(bench, "a", 7))
        self.assertEqual(bench.program("a").pauses, (1, 2, 3, 4, 5, 6, 7, 8))
        for place in (9, 10, 11, 12, 0):
            self.check_refused(bench, BadPauses, grant, bench, "a", place)
        self.check_refused(bench, HasPause, grant, bench, "a", 8, fields={"place": 8})
        give_up(bench, "a", 3)
        self.assertIsNone(grant(bench, "a", 11))
        self.assertEqual(bench.program("a").pauses, (1, 2, 4, 5, 6, 7, 8, 11))

    def test_number_of_positions(self):
        bench = bench_with(LONGER, LONGER, counting(9, (4,), (2, 2)))
        self.assertIsNone(grant(bench, "c", 1))
        self.check_refused(bench, TooMany, grant, bench, "c", 7)
        self.check_refused(bench, HasPause, grant, bench, "c", 4, fields={"place": 4})
        give_up(bench, "b", 8)
        self.check_refused(bench, TooMany, grant, bench, "c", 7)
        give_up(bench, "b", 7)
        self.assertIsNone(grant(bench, "c", 7))
        self.assertEqual(bench.program("c").pauses, (1, 4, 7))

    def test_too_many_ahead_of_a_clash(self):
        # 2 * 2 * 10 * 10 positions.
        many = Program((2, 2), (row("add", 1, 1),) * 9, pauses=tuple(range(1, 9)))
        bench = bench_with(counting(2, (), (2, 2)), blocker(1), many, many)
        self.check_refused(bench, TooMany, grant, bench, "a", 1)
        bench.take_back("d")
        self.check_refused(bench, Clash, grant, bench, "a", 1, fields={"place": 1})
        bench.take_back("b")
        self.assertIsNone(grant(bench, "a", 1))

    def test_wherever_the_programs_are(self):
        bench = bench_with(counting(2, (), (2, 2)), blocker(3))
        for steps in ([], [("a", 1)], [("b", 1)], [("a", -1)]):
            bench.moves(steps)
            self.check_refused(bench, Clash, grant, bench, "a", 1, fields={"place": 1})
            self.assertIsNone(grant(bench, "b", 1))
            give_up(bench, "b", 1)
        bench.close("b")
        self.assertIsNone(grant(bench, "a", 1))

    def test_by_name(self):
        bench = bench_with(counting(2, (), (2, 2)))
        self.assertIsNone(grant(place=1, name="a", bench=bench))
        self.assertIsNone(give_up(place=1, name="a", bench=bench))
        self.assertEqual(bench.program("a").pauses, ())


class GiveUpTest(GrantingCase):
    def test_each_pause(self):
        for place, times in product((1, 2), range(4)):
            for wrap in (lambda bench: bench, MethodsAlone):
                bench = wrap(bench_with(OTHER, FINE))
                bench.step("a", times=times)
                if times == place:
                    self.check_refused(bench, Standing, give_up, bench, "a", place, fields={"place": place})
                    continue
                self.assertIsNone(give_up(bench, "a", place))
                self.assertEqual(bench.program("a"), with_wishes(OTHER, (3 - place,)))
                self.assertEqual(bench.where(), {"a": times, "b": 0})
                self.check_refused(bench, NoPause, give_up, bench, "a", place, fields={"place": place})

    def test_no_pauses(self):
        bench = bench_with(counting(5, (2, 3), (2, 2)), NONE)
        for thing in ANYTHING + [1, 4, 5, True, 2.0, (2,), [3], "2", -2, HUGE]:
            if thing == 2 and isinstance(thing, int):
                continue
            self.check_refused(bench, NoPause, give_up, bench, "a", thing, fields={"place": thing})
            self.check_refused(bench, NoPause, give_up, bench, "b", thing, fields={"place": thing})
        bench.step("a")
        for thing in (0, 5, 1, True):
            self.check_refused(bench, NoPause, give_up, bench, "a", thing, fields={"place": thing})
        self.check_refused(bench, Standing, give_up, bench, "a", 2, fields={"place": 2})

    def test_and_what_goes_then(self):
        bench = bench_with(TWICE)
        self.check_part(bench, "b", blocker(1), bench.let_in, "b", blocker(1))
        give_up(bench, "a", 1)
        self.assertIsNone(bench.let_in("b", blocker(1)))
        bench.step("a")
        self.assertEqual(bench.where(), {"a": 2, "b": 0})


if __name__ == "__main__":
    unittest.main()
