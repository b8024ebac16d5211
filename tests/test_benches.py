import copy
import unittest
from itertools import permutations, product

from pauseplaces.benches import Bench
from pauseplaces.errors import (
    AtEnd, AtStart, BadMove, BadName, BadShape, BadState, Full, Losing, NameTaken, NoName, NotDone, Part, Spent,
    TooMany)
from pauseplaces.programs import Program, run
from tests.plain import blocker, counting, is_right, rng, row, some_program, some_state, three_programs
from tests.plain_bench import (
    bench_with, BenchCase, FINE, LOSING, MIXING, NO_NAMES, NONE, OTHER, PlainBench, seen, TWICE)
from tests.things import ANYTHING, HUGE

# 9 positions, and 9 * 10 * 5 positions.
LONG = counting(8, range(1, 8), (2, 2))
LONGER = counting(9, range(1, 9), (2, 2))
# Behind FINE at its end it could go on, but they do not go from (0, 0).
REFUSED = MIXING


class CreatedTest(BenchCase):
    def test_empty(self):
        bench = Bench((2, 3), (1, 2))
        self.assertEqual(seen(bench), ((2, 3), (1, 2), (1, 2), [], 0, 0, [], [], []))
        self.assertEqual(bench.where(), {})

    def test_no_shapes(self):
        for thing in ANYTHING + [(1, 2), (2, 33), (True, 2), (2,) * 7, [2, 2], (65,)]:
            if thing != (2, 2):
                for state in [(0, 0), None, [[]]]:
                    self.check_raises(BadShape, Bench, thing, state)

    def test_no_states(self):
        for thing in ANYTHING + [(2, 0), (0, True), (0, 0, 0), (-1, 0), [0, 0]]:
            if thing != (0, 0):
                self.check_raises(BadState, Bench, (2, 2), thing)

    def test_by_name(self):
        self.assertEqual(seen(Bench(state=(0, 1), shape=(2, 2))), seen(Bench((2, 2), (0, 1))))

    def test_example(self):
        bench = Bench((2, 2), (0, 0))
        self.assertIsNone(bench.let_in('a', FINE))
        self.assertIsNone(bench.step('a'))
        told = [bench.state(), bench.base(), bench.where()]
        self.assertIsNone(bench.close('a'))
        self.assertEqual([told, bench.base(), len(bench), bench.count()],
                         [[(1, 0), (0, 0), {'a': 1}], (1, 0), 0, 1])


class LetInTest(BenchCase):
    def test_names(self):
        bench = Bench((2, 2), (0, 0))
        for name in NO_NAMES:
            self.check_refused(bench, BadName, bench.let_in, name, FINE)
        for name in ["a", "z", "abcdefgh", "zzzzzzzz"]:
            bench.let_in(name, NONE)
        self.assertEqual(list(bench.where()), ["a", "z", "abcdefgh", "zzzzzzzz"])

    def test_names_that_are_taken(self):
        bench = bench_with(FINE, TWICE)
        for name in ("a", "b"):
            self.check_refused(bench, NameTaken, bench.let_in, name, NONE, fields={"name": name})
        bench.step("a")
        bench.close("a")
        bench.take_back("b")
        for name in ("b", "a"):
            bench.let_in(name, FINE)
            self.check_refused(bench, NameTaken, bench.let_in, name, NONE, fields={"name": name})
        self.assertEqual(list(bench.where().items()), [("b", 0), ("a", 0)])
        self.assertEqual([bench.serial("b"), bench.serial("a"), bench.count()], [2, 3, 4])

    def test_a_fifth_program(self):
        bench = bench_with(FINE, NONE, FINE, OTHER)
        self.check_refused(bench, Full, bench.let_in, "e", NONE)
        bench.take_back("b")
        bench.let_in("e", NONE)
        self.assertEqual(list(bench.where()), ["a", "c", "d", "e"])
        self.check_refused(bench, Full, bench.let_in, "b", NONE)

    def test_at_most_30(self):
        bench = Bench((2, 2), (0, 0))
        for many in range(30):
            self.assertEqual(bench.count(), many)
            bench.let_in("a", FINE)
            self.assertEqual(bench.serial("a"), many)
            if many % 2:
                bench.take_back("a")
            else:
                bench.step("a")
                bench.close("a")
        self.check_refused(bench, Spent, bench.let_in, "a", FINE)
        self.assertEqual((bench.base(), bench.count()), ((1, 0), 30))

    def test_what_a_refusal_costs(self):
        bench = bench_with(FINE)
        for _ in range(40):
            self.check_refused(bench, NameTaken, bench.let_in, "a", NONE, fields={"name": "a"})
            self.check_part(bench, "b", REFUSED, bench.let_in, "b", REFUSED)
        self.assertEqual(bench.count(), 1)

    def test_other_shapes(self):
        bench = bench_with(FINE)
        for shape in [(2,), (2, 2, 2), (2, 3), (3, 2), (4,)]:
            self.check_refused(bench, BadShape, bench.let_in, "b", counting(1, shape=shape))
            self.check_refused(bench, BadShape, bench.let_in, "b", Program(shape, ()))

    def test_programs_that_lose(self):
        bench = bench_with(FINE, NONE)
        for losing in [LOSING, Program((2, 2), (row("copy", 0, 1),)), Program((2, 2), (row("scale", 1, 0),))]:
            self.check_refused(bench, Losing, bench.let_in, "c", losing, fields={"index": 0})

    def test_number_of_positions(self):
        bench = bench_with(LONGER, LONGER)
        self.check_refused(bench, TooMany, bench.let_in, "c", counting(4, (1, 2, 3), (2, 2)))
        bench.let_in("c", counting(3, (1, 2), (2, 2)))
        self.check_refused(bench, TooMany, bench.let_in, "d", FINE)
        bench.let_in("d", NONE)
        self.assertEqual(len(bench), 4)

    def test_the_sequence_of_errors(self):
        bench = bench_with(LONG, LONGER)
        bench.set_count(29)
        other = Program((2,), (row("set", 0, 0),))
        many = counting(4, (1, 2, 3), (2, 2))
        losing_many = Program((2, 2), (row("set", 0, 0),) * 5, pauses=(1, 2, 3, 4))
        parting_many = blocker(5, (1, 2, 3, 4))
        self.check_refused(bench, BadShape, bench.let_in, "c", other)
        self.check_refused(bench, Losing, bench.let_in, "c", losing_many, fields={"index": 0})
        self.check_refused(bench, TooMany, bench.let_in, "c", parting_many)
        self.check_refused(bench, TooMany, bench.let_in, "c", many)
        self.check_part(bench, "c", blocker(1), bench.let_in, "c", blocker(1))
        bench.let_in("c", NONE)
        self.assertEqual(bench.count(), 30)
        for program in (other, losing_many, parting_many, NONE):
            self.check_refused(bench, Spent, bench.let_in, "d", program)
        bench = bench_with(NONE, NONE, NONE, NONE)
        bench.set_count(30)
        for program in (other, losing_many, parting_many, NONE):
            self.check_refused(bench, Full, bench.let_in, "e", program)
            self.check_refused(bench, NameTaken, bench.let_in, "a", program, fields={"name": "a"})
            self.check_refused(bench, BadName, bench.let_in, "A", program)
            self.check_refused(bench, BadName, bench.let_in, True, program)

    def test_programs_that_part(self):
        for names in permutations("pqr"):
            bench = Bench((2, 2, 2), (0, 0, 0))
            programs = dict(zip("pqr", three_programs()))
            for name in names[:2]:
                bench.let_in(name, programs[name])
            last = names[2]
            self.check_part(bench, last, programs[last], bench.let_in, last, programs[last])
            bench.take_back(names[0])
            bench.let_in(last, programs[last])

    def test_wherever_the_open_ones_are(self):
        # The example of point 25.
        bench = Bench((2, 2), (0, 0))
        bench.let_in("p", FINE)
        self.check_part(bench, "q", MIXING, bench.let_in, "q", MIXING)
        bench.step("p")
        self.check_part(bench, "q", MIXING, bench.let_in, "q", MIXING)
        bench.close("p")
        self.assertEqual(bench.base(), (1, 0))
        bench.let_in("q", MIXING)
        bench.step("q")
        self.assertEqual((bench.state(), bench.base()), ((1, 1), (1, 0)))

    def test_pauses_matter(self):
        bench = bench_with(counting(2, (), (2, 2)))
        bench.let_in("b", blocker(1))
        bench.take_back("b")
        bench.take_back("a")
        bench.let_in("a", TWICE)
        self.check_part(bench, "b", blocker(1), bench.let_in, "b", blocker(1))

    def test_in_the_right_state(self):
        for u, v in product(range(3), range(2)):
            bench = bench_with(counting(1, shape=(3, 2)), shape=(3, 2), base=(u, v))
            right = is_right([counting(1, shape=(3, 2)), blocker(1, (), (3, 2))], (u, v))
            self.assertEqual(right, u == 1)
            if right:
                bench.let_in("b", blocker(1, (), (3, 2)))
            else:
                self.check_part(bench, "b", blocker(1, (), (3, 2)), bench.let_in, "b", blocker(1, (), (3, 2)))

    def test_a_program_of_its_own(self):
        program = counting(2, (1,), (2, 2))
        bench = bench_with(program)
        program.pauses = ()
        program.places = (0, 2)
        bench.program("a").places = ()
        self.assertEqual(bench.program("a"), TWICE)
        bench.step("a")
        self.assertEqual(bench.where(), {"a": 1})

    def test_one_program_several_times(self):
        bench = bench_with(TWICE, TWICE, TWICE, TWICE)
        bench.moves([("a", 1), ("c", 1), ("d", 1)])
        self.assertEqual((bench.state(), bench.where()), ((1, 0), {"a": 1, "b": 0, "c": 1, "d": 1}))


class StepsTest(BenchCase):
    def test_places_and_states(self):
        bench = bench_with(counting(7, (2, 5), (8, 2)), shape=(8, 2), base=(1, 0))
        for place in (2, 5, 7):
            self.assertIsNone(bench.step("a"))
            self.assertEqual((bench.where(), bench.state()), ({"a": place}, ((1 + place) % 8, 0)))
        self.check_refused(bench, AtEnd, bench.step, "a", fields={"name": "a"})
        for place in (5, 2, 0):
            self.assertIsNone(bench.back("a"))
            self.assertEqual((bench.where(), bench.state()), ({"a": place}, ((1 + place) % 8, 0)))
        self.check_refused(bench, AtStart, bench.back, "a", fields={"name": "a"})
        self.assertEqual(bench.base(), (1, 0))

    def test_several_times(self):
        bench = bench_with(counting(7, (2, 5), (8, 2)), FINE_8, shape=(8, 2))
        places = (0, 2, 5, 7)
        for at, times in product(range(4), range(6)):
            for way, call, kind in ((1, bench.step, AtEnd), (-1, bench.back, AtStart)):
                bench.set_pauses("a", (2, 5))
                bench.back("a", times=places.index(bench.where()["a"]))
                bench.step("a", times=at)
                self.assertEqual(bench.where(), {"a": places[at], "b": 0})
                if 0 <= at + way * times <= 3:
                    self.assertIsNone(call("a", times=times))
                    self.assertEqual(bench.where(), {"a": places[at + way * times], "b": 0})
                else:
                    self.check_refused(bench, kind, call, "a", times=times, fields={"name": "a"})
        self.check_refused(bench, AtEnd, bench.step, "a", times=HUGE, fields={"name": "a"})
        self.check_refused(bench, AtStart, bench.back, "a", times=HUGE, fields={"name": "a"})

    def test_programs_without_rows(self):
        bench = bench_with(NONE, FINE)
        for call, kind in ((bench.step, AtEnd), (bench.back, AtStart)):
            self.check_refused(bench, kind, call, "a", fields={"name": "a"})
            self.assertIsNone(call("a", times=0))
            self.check_refused(bench, kind, call, "a", times=2, fields={"name": "a"})

    def test_whatever_the_others_did_in_between(self):
        bench = bench_with(FINE, OTHER)
        bench.step("a")
        bench.step("b", times=3)
        bench.back("a")
        self.assertEqual(bench.state(), (0, 1))
        bench.back("b")
        self.assertEqual((bench.state(), bench.where()), ((0, 0), {"a": 0, "b": 2}))

    def test_no_names(self):
        bench = bench_with(FINE)
        for thing in NO_NAMES + ["b", "aa"]:
            for call in (bench.step, bench.back, bench.close, bench.take_back, bench.program, bench.serial):
                self.check_refused(bench, NoName, call, thing, fields={"name": thing})
            for times in (0, 1, 7):
                self.check_refused(bench, NoName, bench.step, thing, times=times, fields={"name": thing})
                self.check_refused(bench, NoName, bench.back, thing, times=times, fields={"name": thing})

    def test_names_of_programs_that_are_gone(self):
        bench = bench_with(NONE, FINE)
        bench.close("a")
        bench.take_back("b")
        for name in "ab":
            for call in (bench.step, bench.back, bench.close, bench.take_back, bench.program):
                self.check_refused(bench, NoName, call, name, fields={"name": name})


FINE_8 = Program((8, 2), (row("add", 1, 1),))


class MovesTest(BenchCase):
    def test_several(self):
        bench = bench_with(TWICE, OTHER)
        steps = [("a", 1), ("b", 1), ("b", 1), ("a", -1), ("b", 1), ("b", -1), ("a", 1), ("a", 1)]
        before = copy.deepcopy(steps)
        self.assertIsNone(bench.moves(steps))
        self.assertEqual(steps, before)
        self.assertEqual((bench.where(), bench.state()), ({"a": 2, "b": 2}, (0, 0)))
        self.assertIsNone(bench.moves([]))
        self.assertIsNone(bench.moves([("a", -1)]))
        self.assertEqual((bench.where(), bench.state()), ({"a": 1, "b": 2}, (1, 0)))
        self.assertIsNone(Bench((2,), (0,)).moves([]))

    def check_bad(self, bench, index, steps):
        self.check_refused(bench, BadMove, bench.moves, steps, fields={"index": index})

    def test_beyond_an_end_and_before_place_0(self):
        bench = bench_with(TWICE, NONE, FINE)
        bench.step("a")
        self.check_bad(bench, 1, [("a", 1), ("a", 1)])
        self.check_bad(bench, 1, [("a", -1), ("a", -1)])
        self.check_bad(bench, 3, [("a", 1), ("a", -1), ("a", 1), ("a", 1), ("a", -1)])
        self.check_bad(bench, 0, [("b", 1)])
        self.check_bad(bench, 0, [("b", -1)])
        self.check_bad(bench, 1, [("c", 1), ("b", 1)])
        self.check_bad(bench, 2, [("c", 1), ("a", 1), ("c", 1)])
        self.check_bad(bench, 0, [("c", -1), ("c", 1)])

    def test_wrong_pairs(self):
        bench = bench_with(TWICE, FINE)
        for pair in ANYTHING + [
                ("a", 0), ("a", 2), ("a", -2), ("a", HUGE), ("a", -HUGE), ("a", True), ("a", False), ("a", None),
                ("a", "1"), ("a", (1,)), ("a", [1]), ["a", 1], ("a",), ("a", 1, 1), ("c", 1), ("A", 1), ("", 1),
                (0, 1), (None, 1), (["a"], 1), (("a",), 1), ("ab", 1), "a1"]:
            self.check_bad(bench, 0, [pair])
            self.check_bad(bench, 0, [pair, ("a", 1)])
            self.check_bad(bench, 1, [("a", 1), pair, ("b", 1)])
            self.check_bad(bench, 2, [("a", 1), ("b", 1), pair])
            self.check_bad(bench, 2, [("a", 1), ("a", -1), pair, pair])

    def test_any_object(self):
        bench = bench_with(FINE)
        for thing in ANYTHING + [(("a", 1),), ("a", 1), {"a": 1}]:
            if thing != []:
                self.check_bad(bench, 0, thing)


class CloseTest(BenchCase):
    def test_only_at_the_end(self):
        bench = bench_with(OTHER, FINE)
        for _ in range(3):
            self.check_refused(bench, NotDone, bench.close, "a", fields={"name": "a"})
            bench.step("a")
        self.assertIsNone(bench.close("a"))
        self.assertEqual((bench.base(), bench.state(), bench.where(), bench.count()),
                         ((0, 1), (0, 1), {"b": 0}, 2))
        self.check_refused(bench, NoName, bench.close, "a", fields={"name": "a"})

    def test_from_the_base(self):
        bench = bench_with(TWICE, OTHER)
        bench.moves([("a", 1), ("b", 1), ("b", 1), ("b", 1)])
        bench.close("b")
        self.assertEqual((bench.base(), bench.state(), bench.where()), ((0, 1), (1, 1), {"a": 1}))
        bench.back("a")
        self.assertEqual((bench.base(), bench.state()), ((0, 1), (0, 1)))
        self.check_refused(bench, NotDone, bench.close, "a", fields={"name": "a"})

    def test_without_rows(self):
        bench = bench_with(NONE, FINE)
        self.assertIsNone(bench.close("a"))
        self.assertEqual((bench.base(), bench.where(), bench.count()), ((0, 0), {"b": 0}, 2))

    def test_back_to_not_done(self):
        bench = bench_with(FINE)
        bench.step("a")
        bench.back("a")
        self.check_refused(bench, NotDone, bench.close, "a", fields={"name": "a"})


class TakeBackTest(BenchCase):
    def test_at_each_place(self):
        for times in range(4):
            bench = bench_with(OTHER, TWICE, NONE, base=(1, 1))
            bench.step("b")
            bench.step("a", times=times)
            self.assertIsNone(bench.take_back("a"))
            self.assertEqual((bench.base(), bench.state(), bench.where(), bench.count()),
                             ((1, 1), (0, 1), {"b": 1, "c": 0}, 3))
            self.assertEqual([bench.serial("b"), bench.serial("c")], [1, 2])
            self.check_refused(bench, NoName, bench.take_back, "a", fields={"name": "a"})


class TellsTest(BenchCase):
    def test_some_benches(self):
        for seed in range(25):
            self.check_life(rng(1000 + seed))

    def check_life(self, source):
        """Many calls, right and wrong ones, beside the same ones to a bench that is spelled out."""
        shape = source.choice([(2, 2), (3, 2), (2, 2, 2), (5,)])
        state = some_state(source, shape)
        bench, plain = Bench(shape, state), PlainBench(shape, state)
        for _ in range(60):
            word, things, more = self.some_call(source, shape)
            expected = (plain.move(things[0], more["times"] * (1 if word == "step" else -1))
                        if word in ("step", "back") else getattr(plain, word)(*things))
            call = getattr(bench, word)
            if expected is None:
                self.assertIsNone(call(*things, **more))
            elif expected[0] is Part:
                self.check_part(bench, things[0], things[1], call, *things)
            else:
                self.check_refused(bench, expected[0], call, *things, fields=expected[1], **more)
            self.assertEqual(seen(bench), plain.seen())
            self.check_names(bench)

    def some_call(self, source, shape):
        word = source.choice(["let_in", "let_in", "step", "step", "back", "moves", "close", "close", "take_back"])
        name = source.choice(["a", "b", "c", "d", "e", "f"])
        if word == "let_in":
            other = source.choice([shape] * 9 + [(2, 2)])
            program = some_program(source, other, 3, losing=source.random() < 0.1, most_pauses=2)
            return word, [source.choice([name] * 9 + ["A"]), program], {}
        if word in ("step", "back"):
            return word, [name], {"times": source.choice([0, 1, 1, 1, 2, 3])}
        if word == "moves":
            return word, [[(source.choice("abc"), source.choice([1, 1, -1])) for _ in range(source.randint(0, 4))]], {}
        return word, [name], {}

    def check_names(self, bench):
        names = list(bench.where())
        for name in "abcdefgA":
            self.assertEqual(name in bench, name in names)

    def test_in(self):
        bench = bench_with(FINE, NONE)
        self.assertTrue("a" in bench and "b" in bench)
        for thing in NO_NAMES + ["c", "ab", "", ("a",), ["a"], 0, FINE]:
            self.assertFalse(thing in bench, thing)
        bench.take_back("a")
        self.assertFalse("a" in bench)

    def test_program(self):
        bench = bench_with(TWICE, NONE)
        self.assertEqual(bench.program("a"), TWICE)
        self.assertIs(type(bench.program("b")), Program)
        self.assertEqual(bench.program("b"), NONE)

    def test_new_dicts(self):
        bench = bench_with(TWICE)
        where = bench.where()
        bench.step("a")
        self.assertEqual(where, {"a": 0})
        where["a"] = 2
        where["b"] = 0
        self.assertEqual(bench.where(), {"a": 1})
        bench.where().clear()
        self.assertEqual((bench.where(), len(bench)), ({"a": 1}, 1))

    def test_side_by_side(self):
        one, other = Bench((2, 2), (0, 0)), Bench((2, 2), (0, 0))
        one.let_in("a", TWICE)
        self.assertEqual((len(other), other.count(), other.marks(), "a" in other), (0, 0, [], False))
        other.let_in("a", TWICE)
        one.step("a")
        one.marks().append({0: 1})
        self.assertEqual((other.where(), other.state(), other.marks()), ({"a": 0}, (0, 0), []))
        one.step("a")
        one.close("a")
        self.assertEqual((other.where(), len(one)), ({"a": 0}, 0))

    def test_closing_leads_on(self):
        bench = Bench((4, 4), (0, 0))
        program = Program((4, 4), (row("add", 0, 1), row("mix", 1, 0, 1)), pauses=(1,))
        state = (0, 0)
        for _ in range(9):
            bench.let_in("a", program)
            bench.step("a", times=2)
            bench.close("a")
            state = run(program, state)
            self.assertEqual((bench.base(), bench.state()), (state, state))


class EqualTest(BenchCase):
    def test_equal(self):
        self.assertTrue(bench_with() == bench_with())
        self.assertTrue(bench_with(TWICE, NONE) == bench_with(counting(2, (1,), (2, 2)), Program((2, 2), ())))
        self.assertFalse(bench_with(TWICE) != bench_with(TWICE))

    def test_each_difference(self):
        one = bench_with(TWICE, FINE)
        others = {
            "shape": Bench((2, 3), (0, 0)), "base": bench_with(TWICE, FINE, base=(0, 1)),
            "pauses": bench_with(counting(2, (), (2, 2)), FINE), "rows": bench_with(OTHER, FINE),
            "sequence": bench_with(FINE, TWICE), "fewer": bench_with(TWICE), "more": bench_with(TWICE, FINE, NONE),
            "names": Bench((2, 2), (0, 0)), "count": bench_with(TWICE, FINE), "place": bench_with(TWICE, FINE)}
        for name, program in (("a", TWICE), ("c", FINE)):
            others["names"].let_in(name, program)
        others["count"].set_count(3)
        others["place"].step("b")
        for word, other in others.items():
            self.assertFalse(one == other, word)
            self.assertFalse(other == one, word)
        self.assertFalse(Bench((2, 2), (0, 0)) == Bench((2, 2, 2), (0, 0, 0)))
        self.assertFalse(Bench((4, 2), (0, 0)) == Bench((2, 4), (0, 0)))

    def test_one_sequence_of_names(self):
        one, other = bench_with(FINE, FINE), Bench((2, 2), (0, 0))
        for name in "ba":
            other.let_in(name, FINE)
        self.assertFalse(one == other)

    def test_not_the_way_there(self):
        one, other = bench_with(TWICE, NONE), bench_with(FINE, NONE)
        other.take_back("a")
        other.take_back("b")
        other.set_count(0)
        other.let_in("a", TWICE)
        other.let_in("b", NONE)
        other.step("a")
        other.back("a")
        other.marks().append({0: 0})
        self.assertTrue(one == other)
        one, other = bench_with(NONE, FINE), bench_with(FINE, NONE)
        one.take_back("a")
        other.take_back("b")
        one.take_back("b")
        one.set_count(1)
        one.let_in("a", FINE)
        # The serial numbers are 1 and 0.
        self.assertTrue(one == other)

    def test_other_objects(self):
        for thing in ANYTHING + [FINE, seen(bench_with())]:
            self.assertFalse(bench_with() == thing)
            self.assertFalse(thing == bench_with())


class ForOthersTest(BenchCase):
    def test_serial(self):
        bench = bench_with(NONE, FINE, NONE)
        self.assertEqual([bench.serial(name) for name in "abc"], [0, 1, 2])
        bench.take_back("b")
        bench.let_in("b", FINE)
        self.assertEqual([bench.serial(name) for name in "acb"], [0, 2, 3])
        bench.set_count(9)
        bench.let_in("d", FINE)
        self.assertEqual([bench.serial(name) for name in "acbd"], [0, 2, 3, 9])
        self.assertEqual(bench.count(), 10)

    def test_set_pauses(self):
        bench = bench_with(OTHER, FINE)
        bench.step("a")
        self.assertIsNone(bench.set_pauses("a", (1,)))
        self.assertEqual(bench.program("a"), Program((2, 2), OTHER.rows, pauses=(1,)))
        self.assertEqual((bench.where(), bench.state()), ({"a": 1, "b": 0}, (0, 1)))
        bench.step("a")
        self.assertEqual((bench.where(), bench.state()), ({"a": 3, "b": 0}, (0, 1)))
        bench.set_pauses("a", ())
        bench.back("a")
        self.assertEqual(bench.where(), {"a": 0, "b": 0})
        bench.set_pauses("a", (2,))
        bench.step("a")
        self.assertEqual(bench.where(), {"a": 2, "b": 0})
        self.assertEqual(bench.program("b"), FINE)

    def test_set_count(self):
        bench = bench_with(FINE)
        self.assertIsNone(bench.set_count(29))
        self.assertEqual(bench.count(), 29)
        bench.let_in("b", NONE)
        self.check_refused(bench, Spent, bench.let_in, "c", NONE)

    def test_marks(self):
        bench = bench_with(FINE)
        marks = bench.marks()
        self.assertEqual(marks, [])
        marks.append({0: 1})
        self.assertEqual(bench.marks(), [{0: 1}])
        self.assertIs(bench.marks(), marks)
        bench.step("a")
        bench.close("a")
        self.assertIs(bench.marks(), marks)
        marks.clear()
        self.assertEqual(bench.marks(), [])

    def some_bench(self):
        bench = bench_with(NONE, TWICE, OTHER, base=(1, 0))
        bench.take_back("a")
        bench.step("c", times=2)
        bench.marks().append({1: 0, 2: 2})
        bench.marks().append({})
        return bench

    def test_copy(self):
        bench = self.some_bench()
        made = bench.copy()
        self.assertIs(type(made), Bench)
        self.assertTrue(made == bench)
        self.assertEqual(seen(made), seen(bench))
        self.assertEqual([made.serial("b"), made.serial("c"), made.marks()], [1, 2, [{1: 0, 2: 2}, {}]])

    def test_copies_go_on_by_themselves(self):
        changes = [
            lambda b: b.step("b"), lambda b: b.back("c"), lambda b: b.moves([("b", 1), ("c", 1)]),
            lambda b: b.take_back("b"), lambda b: (b.step("c"), b.close("c")), lambda b: b.let_in("d", FINE),
            lambda b: b.set_pauses("b", ()), lambda b: b.set_count(17), lambda b: b.marks().pop(),
            lambda b: b.marks()[0].update({2: 0}), lambda b: b.marks().append({1: 1})]
        for change in changes:
            for which in (0, 1):
                benches = [self.some_bench()]
                benches.append(benches[0].copy())
                expected = seen(self.some_bench())
                change(benches[which])
                self.assertEqual(seen(benches[1 - which]), expected)
                self.assertNotEqual(seen(benches[which]), expected)

    def test_copies_of_copies(self):
        bench = self.some_bench().copy().copy()
        bench.step("b")
        self.assertEqual(bench.copy().where(), {"b": 1, "c": 2})


class ByNameTest(BenchCase):
    def test_methods(self):
        bench = Bench(state=(0, 0), shape=(2, 2))
        self.assertIsNone(bench.let_in(program=TWICE, name="a"))
        self.assertIsNone(bench.let_in(name="b", program=NONE))
        self.assertIsNone(bench.step(times=2, name="a"))
        self.assertIsNone(bench.back(times=1, name="a"))
        self.assertIsNone(bench.step(name="a"))
        self.assertIsNone(bench.back(name="a"))
        self.assertIsNone(bench.moves(steps=[("a", 1)]))
        self.assertEqual(bench.program(name="a"), TWICE)
        self.assertEqual(bench.serial(name="b"), 1)
        self.assertIsNone(bench.set_pauses(pauses=(), name="a"))
        self.assertIsNone(bench.set_count(count=5))
        self.assertIsNone(bench.close(name="a"))
        self.assertIsNone(bench.take_back(name="b"))
        self.assertEqual((bench.base(), bench.count(), len(bench)), ((0, 0), 5, 0))

    def test_times_by_name_alone(self):
        bench = bench_with(TWICE)
        for call in (bench.step, bench.back):
            with self.assertRaises(TypeError):
                call("a", 1)
        self.assertEqual(bench.where(), {"a": 0})


if __name__ == "__main__":
    unittest.main()
