import unittest

from pauseplaces.benches import Bench
from pauseplaces.errors import NoMark, PauseError, Stale
from pauseplaces.granting import give_up, grant
from pauseplaces.marks import back_to, fork, mark
from pauseplaces.pages import page
from tests.plain import counting, rng, some_program, some_state
from tests.plain_bench import bench_with, BenchCase, FINE, MethodsAlone, NONE, OTHER, seen, TWICE
from tests.things import ANYTHING, HUGE


class MarkTest(BenchCase):
    def test_numbers(self):
        bench = bench_with(TWICE, OTHER)
        for number in range(4):
            before = seen(bench)
            self.assertEqual(mark(bench), number)
            self.assertEqual(seen(bench)[:-1], before[:-1])
        self.assertEqual(len(bench.marks()), 4)
        self.assertEqual(mark(Bench((2,), (0,))), 0)

    def test_what_it_keeps(self):
        bench = bench_with(NONE, TWICE, OTHER)
        bench.take_back("a")
        bench.step("c", times=2)
        mark(bench)
        bench.step("b")
        mark(bench)
        self.assertEqual(bench.marks(), [{1: 0, 2: 2}, {1: 1, 2: 2}])

    def test_each_place(self):
        for wrap in (lambda bench: bench, MethodsAlone):
            bench = wrap(bench_with(OTHER, TWICE))
            told = []
            for steps in ([], [("a", 1)], [("b", 1), ("a", 1)], [("b", 1), ("a", 1)], [("a", -1)]):
                bench.moves(steps)
                told.append((mark(bench), bench.where(), bench.state()))
            for number, where, state in told + told[::-1] + told[::2]:
                self.assertIsNone(back_to(bench, number))
                self.assertEqual((bench.where(), bench.state(), bench.base()), (where, state, (0, 0)))
            self.assertEqual(len(bench.marks()), 5)

    def test_programs_let_in_since_then(self):
        bench = bench_with(TWICE)
        bench.step("a")
        mark(bench)
        bench.let_in("b", OTHER)
        bench.moves([("a", 1), ("b", 1), ("b", 1)])
        back_to(bench, 0)
        self.assertEqual((bench.where(), bench.state()), ({"a": 1, "b": 2}, (1, 0)))
        self.assertEqual(bench.count(), 2)

    def test_a_bench_without_programs(self):
        bench = Bench((2, 2), (0, 1))
        self.assertEqual(mark(bench), 0)
        bench.let_in("a", TWICE)
        bench.step("a")
        self.assertIsNone(back_to(bench, 0))
        self.assertEqual(bench.where(), {"a": 1})
        bench.step("a")
        bench.close("a")
        self.assertIsNone(back_to(bench, 0))

    def test_example(self):
        bench = Bench((2, 2), (0, 0))
        self.assertEqual([bench.let_in('a', FINE), mark(bench), bench.step('a')], [None, 0, None])
        told = page(bench)
        self.assertIsNone(back_to(bench, 0))
        self.assertEqual([told, bench.where()],
                         ['shape 2 2\nbase 0 0\ncount 1\nprogram a 1\nadd 0 1\ndone', {'a': 0}])


class WrongMarkTest(BenchCase):
    def test_no_marks(self):
        bench = bench_with(TWICE)
        for many in range(3):
            for thing in ANYTHING + [many, -1, HUGE, True, False, "0", (0,), [0], 0, 1, 2]:
                if isinstance(thing, int) and not isinstance(thing, bool) and 0 <= thing < many:
                    self.assertIsNone(back_to(bench, thing))
                else:
                    self.check_refused(bench, NoMark, back_to, bench, thing, fields={"number": thing})
            mark(bench)

    def check_stale(self, bench, number):
        self.check_refused(bench, Stale, back_to, bench, number, fields={"number": number})

    def test_programs_that_are_gone(self):
        for name, how in (("a", "close"), ("a", "take_back"), ("b", "close"), ("b", "take_back")):
            bench = bench_with(FINE, TWICE, NONE)
            mark(bench)
            bench.moves([("a", 1), ("b", 1), ("b", 1)])
            getattr(bench, how)(name)
            mark(bench)
            self.check_stale(bench, 0)
            self.assertIsNone(back_to(bench, 1))
            # One of the same name is another program.
            bench.let_in(name, {"a": FINE, "b": TWICE}[name])
            self.check_stale(bench, 0)
            self.assertIsNone(back_to(bench, 1))

    def test_nothing_moves_where_one_is_gone(self):
        bench = bench_with(TWICE, FINE, TWICE)
        mark(bench)
        bench.moves([("a", 1), ("b", 1), ("c", 1)])
        bench.close("b")
        self.check_stale(bench, 0)
        self.assertEqual(bench.where(), {"a": 1, "c": 1})

    def test_places_that_are_none_any_more(self):
        bench = bench_with(TWICE, OTHER, TWICE)
        for steps in ([("b", 1)], [("b", 1)], [("b", 1), ("a", 1)], [("a", 1), ("c", 1)]):
            bench.moves(steps)
            mark(bench)
        give_up(bench, "b", 1)
        self.check_stale(bench, 0)
        self.assertIsNone(back_to(bench, 1))
        self.assertEqual(bench.where(), {"a": 0, "b": 2, "c": 0})
        self.check_stale(bench, 0)
        back_to(bench, 3)
        give_up(bench, "b", 2)
        self.check_stale(bench, 0)
        self.check_stale(bench, 1)
        # An end and place 0 always are places.
        self.assertIsNone(back_to(bench, 2))
        self.assertEqual(bench.where(), {"a": 1, "b": 3, "c": 0})

    def test_places_that_are_some_again(self):
        bench = bench_with(OTHER)
        bench.step("a")
        mark(bench)
        bench.step("a")
        give_up(bench, "a", 1)
        self.check_stale(bench, 0)
        grant(bench, "a", 1)
        self.assertIsNone(back_to(bench, 0))
        self.assertEqual(bench.where(), {"a": 1})

    def test_new_pauses_in_between(self):
        bench = bench_with(counting(9, (4,), (2, 2)))
        bench.step("a")
        mark(bench)
        for place in (2, 3, 7):
            grant(bench, "a", place)
        for name, times in (("step", 1), ("step", 2), ("back", 1), ("back", 3)):
            getattr(bench, name)("a", times=times)
            back_to(bench, 0)
            self.assertEqual(bench.where(), {"a": 4})


class ForkTest(BenchCase):
    def some_bench(self):
        bench = bench_with(NONE, TWICE, OTHER, base=(1, 0))
        bench.take_back("a")
        mark(bench)
        bench.step("c", times=2)
        mark(bench)
        return bench

    def test_equal(self):
        bench = self.some_bench()
        for made in (fork(bench), fork(MethodsAlone(bench))):
            self.assertEqual(seen(made), seen(bench))
        self.assertIs(type(fork(bench)), Bench)
        self.assertTrue(fork(bench) == bench)

    def test_goes_on_by_itself(self):
        changes = [
            lambda b: b.step("b"), lambda b: mark(b), lambda b: back_to(b, 0), lambda b: give_up(b, "b", 1),
            lambda b: (give_up(b, "c", 1), grant(b, "b", 1) if 1 not in b.program("b") else None),
            lambda b: b.take_back("c"), lambda b: b.let_in("d", FINE), lambda b: b.marks().clear(),
            lambda b: b.marks()[0].clear()]
        for change in changes:
            for which in (0, 1):
                benches = [self.some_bench()]
                benches.append(fork(benches[0]))
                expected = seen(self.some_bench())
                change(benches[which])
                self.assertEqual(seen(benches[1 - which]), expected)
                self.assertNotEqual(seen(benches[which]), expected)

    def test_marks_of_both(self):
        bench = self.some_bench()
        made = fork(bench)
        made.step("b")
        self.assertEqual(mark(made), 2)
        self.check_refused(bench, NoMark, back_to, bench, 2, fields={"number": 2})
        made.take_back("c")
        self.check_refused(made, Stale, back_to, made, 1, fields={"number": 1})
        self.assertIsNone(back_to(bench, 0))
        self.assertEqual(bench.where(), {"b": 0, "c": 0})
        self.assertIsNone(back_to(bench, 1))
        self.assertEqual(bench.where(), {"b": 0, "c": 2})

    def test_by_name(self):
        bench = self.some_bench()
        self.assertEqual(mark(bench=bench), 2)
        self.assertIsNone(back_to(number=0, bench=bench))
        self.assertEqual(fork(bench=bench).where(), {"b": 0, "c": 0})


class LifeTest(BenchCase):
    """Many calls, and beside them what each mark should say."""

    def test_some_lives(self):
        told = []
        for seed in range(25):
            source = rng(1100 + seed)
            shape = source.choice([(2, 2), (3, 2), (2, 2, 2)])
            bench = Bench(shape, some_state(source, shape))
            self.kept = []
            for _ in range(60):
                told.append(self.live(source, bench))
                self.assertEqual(bench.marks(), self.kept)
        for word in ("stale", "back"):
            self.assertGreater(told.count(word), 20)

    def live(self, source, bench):
        word = source.choice(["let", "step", "step", "leave", "pauses", "mark", "back", "back"])
        names = list(bench.where())
        if word == "let":
            try:
                bench.let_in(source.choice("abcd"), some_program(source, bench.shape, 4, most_pauses=3))
            except PauseError:
                return "refused"
        elif word == "mark":
            self.kept.append({bench.serial(name): place for name, place in bench.where().items()})
            self.assertEqual(mark(bench), len(self.kept) - 1)
        elif word == "back" and self.kept:
            return self.go_back(bench, source.randrange(len(self.kept)))
        elif names:
            self.change(source, bench, source.choice(names), word)
        return word

    def change(self, source, bench, name, word):
        places = bench.program(name).places
        if word == "step":
            bench.back(name, times=places.index(bench.where()[name]))
            bench.step(name, times=source.randrange(len(places)))
        elif word == "leave":
            bench.take_back(name)
        elif bench.where()[name] not in places[1:-1]:
            bench.set_pauses(name, places[2:-1])

    def go_back(self, bench, number):
        names = {bench.serial(name): name for name in bench.where()}
        stale = [serial for serial, place in self.kept[number].items()
                 if serial not in names or place not in bench.program(names[serial]).places]
        if stale:
            self.check_refused(bench, Stale, back_to, bench, number, fields={"number": number})
            return "stale"
        expected = bench.where()
        expected.update({names[serial]: place for serial, place in self.kept[number].items()})
        self.assertIsNone(back_to(bench, number))
        self.assertEqual(list(bench.where().items()), list(expected.items()))
        return "back"


if __name__ == "__main__":
    unittest.main()
