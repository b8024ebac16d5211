import re
import unittest
from functools import lru_cache
from math import prod

from pauseplaces.benches import Bench
from pauseplaces.errors import BadPage, NoMark, PauseError
from pauseplaces.granting import grant
from pauseplaces.marks import back_to, mark
from pauseplaces.pages import page, read_page
from pauseplaces.programs import Program
from tests.plain import (
    counting, is_right, positions, rng, row, row_loses, some_program, some_state, three_programs)
from tests.plain_bench import bench_with, BenchCase, FINE, MethodsAlone, NONE, OTHER, PlainBench, seen, TWICE
from tests.things import all_rows, ANYTHING


def row_line(one):
    """A row as a script writes it."""
    action, conditions = one
    words = list(action)
    if conditions:
        words += ["if"] + [part for pair in conditions for part in pair]
    return " ".join(map(str, words))


@lru_cache(maxsize=None)
def row_lines(shape):
    """A dict from the lines of all rows that do not lose to these rows."""
    return {row_line(one): one for one in all_rows(shape) if not row_loses(shape, one)}


def plain_page(bench):
    lines = ["shape " + " ".join(map(str, bench.shape)), "base " + " ".join(map(str, bench.base())),
             "count " + str(bench.count())]
    for name, place in bench.where().items():
        lines.append("program " + name + " " + str(place))
        program = bench.program(name)
        for at, one in enumerate(program.rows):
            lines += ["pause"] * (at in program.pauses) + [row_line(one)]
        lines.append("done")
    return "\n".join(lines)


NUMBER = "(0|[1-9][0-9]*)"


def numbers_of(word, line):
    """The integers behind a word, or no list if the line is none of the word and integers."""
    if not re.fullmatch(word + "( " + NUMBER + ")+", line):
        return None
    return [int(part) for part in line.split(" ")[1:]]


def first_wrong(text):
    """The number of the first wrong line, or None, and the bench as it is spelled out."""
    lines = text.split("\n") + [None]
    shape = numbers_of("shape", lines[0])
    if not shape or len(shape) > 6 or min(shape) < 2 or max(shape) > 64 or prod(shape) > 64:
        return 1, None
    if lines[1] is None:
        return 2, None
    base = numbers_of("base", lines[1])
    if not base or len(base) != len(shape) or any(a >= b for a, b in zip(base, shape)):
        return 2, None
    if lines[2] is None or lines[2] not in ["count " + str(k) for k in range(31)]:
        return 3, None
    bench = PlainBench(tuple(shape), tuple(base))
    at = 3
    while lines[at] is not None:
        wrong, at = read_plainly(bench, lines, at, int(lines[2].split(" ")[1]))
        if wrong:
            return wrong, None
    bench.many = int(lines[2].split(" ")[1])
    return None, bench


def read_plainly(bench, lines, at, count):
    """The number of the first wrong line of a program, or None, and the index behind its line done."""
    head = at
    found = re.fullmatch("program ([a-z]{1,8}) " + NUMBER, lines[at])
    if not found or bench.find(found[1]) or len(bench.entries) in (4, count):
        return at + 1, None
    rows, pauses = [], []
    at += 1
    while lines[at] != "done":
        line = lines[at]
        if line == "pause":
            if not 1 <= len(rows) <= 79 or pauses[-1:] == [len(rows)] or len(pauses) == 8:
                return at + 1, None
            pauses.append(len(rows))
        elif line in row_lines(bench.shape) and len(rows) < 80:
            rows.append(row_lines(bench.shape)[line])
        else:
            return at + 1, None
        at += 1
    if lines[at - 1] == "pause":
        return at + 1, None
    program = Program(bench.shape, tuple(rows), pauses=tuple(pauses))
    if int(found[2]) not in program.places:
        return head + 1, None
    programs = [entry["program"] for entry in bench.entries] + [program]
    if len(positions(programs)) > 400 or not is_right(programs, bench.bottom):
        return at + 1, None
    bench.let_in(found[1], program)
    bench.entries[-1]["at"] = program.places.index(int(found[2]))
    return None, at + 1


def some_benches(seed, many):
    """Benches with up to four programs somewhere."""
    source = rng(seed)
    found = []
    for _ in range(many):
        shape = source.choice([(2, 2), (3, 2), (4,), (2, 12)])
        bench = Bench(shape, some_state(source, shape))
        for name in source.sample(["a", "b", "zz", "program", "done", "pause"], source.randint(0, 6)):
            try:
                bench.let_in(name, some_program(source, shape, 4, most_pauses=2))
            except PauseError:
                continue
            bench.step(name, times=source.randrange(len(bench.program(name).places)))
            if source.random() < 0.2:
                bench.take_back(name)
        found.append(bench)
    return found


class PageCase(BenchCase):
    def check_wrong(self, line, text):
        self.check_raises(BadPage, read_page, text, fields={"line": line})

    def check(self, text):
        """It is read, or it is refused with the first line that is wrong by the reading above."""
        wrong, plain = first_wrong(text)
        if wrong:
            self.check_wrong(wrong, text)
        else:
            found = seen(read_page(text))
            self.assertEqual(found[:7], plain.seen()[:7])
            self.assertEqual(found[8], [])
        return wrong


class WrittenTest(PageCase):
    def test_some_benches(self):
        for bench in some_benches(120, 150):
            before = seen(bench)
            text = page(bench)
            self.assertEqual(page(MethodsAlone(bench)), text)
            self.assertEqual(seen(bench), before)
            self.assertEqual(text, plain_page(bench))

    def test_spelled_out(self):
        self.assertEqual(page(Bench((3, 2), (2, 1))), "shape 3 2\nbase 2 1\ncount 0")
        self.assertEqual(page(bench_with(NONE)), "shape 2 2\nbase 0 0\ncount 1\nprogram a 0\ndone")
        bench = bench_with(Program((12, 2), (row("add", 0, 11, when=((1, 0),)), row("scale", 0, 5)), pauses=(1,)),
                           Program((12, 2), ()), shape=(12, 2), base=(10, 1))
        bench.step("a")
        self.assertEqual(page(bench), "shape 12 2\nbase 10 1\ncount 2\nprogram a 1\nadd 0 11 if 1 0\npause\n"
                                      "scale 0 5\ndone\nprogram b 0\ndone")

    def test_all_rows(self):
        for shape in [(2, 2, 2), (3, 2)]:
            lines = list(row_lines(shape))
            for at in range(0, len(lines), 80):
                text = "\n".join(["shape " + " ".join(map(str, shape)), "base" + " 0" * len(shape), "count 1",
                                  "program a 0"] + lines[at:at + 80] + ["done"])
                self.assertEqual(page(read_page(text)), text)

    def test_by_name(self):
        self.assertEqual(page(bench=bench_with(NONE)), page(bench_with(NONE)))
        self.assertEqual(read_page(text=page(bench_with(NONE))), bench_with(NONE))


class ReadTest(PageCase):
    def test_some_benches(self):
        for bench in some_benches(121, 150):
            mark(bench)
            found = read_page(page(bench))
            self.assertIs(type(found), Bench)
            self.assertTrue(found == bench)
            self.assertEqual(found.marks(), [])
            self.assertEqual(found.state(), bench.state())
            self.assertEqual(page(found), page(bench))
            self.check(page(bench))

    def test_goes_on_alike(self):
        for bench in some_benches(122, 60):
            found = read_page(page(bench))
            for call in [lambda b: b.let_in("new", OTHER), lambda b: b.step(list(b.where())[0]),
                         lambda b: b.back(list(b.where())[-1], times=1), lambda b: b.close(list(b.where())[0]),
                         lambda b: grant(b, list(b.where())[0], 1), lambda b: mark(b), lambda b: b.let_in("z", NONE),
                         lambda b: b.take_back(list(b.where())[-1])]:
                told = []
                for one in (bench, found):
                    try:
                        told.append(call(one))
                    except (PauseError, IndexError) as error:
                        told.append((type(error), vars(error)))
                self.assertEqual(told[0], told[1])
                self.assertTrue(found == bench)

    def test_marks_begin_again(self):
        bench = bench_with(TWICE)
        mark(bench)
        found = read_page(page(bench))
        self.check_refused(found, NoMark, back_to, found, 0, fields={"number": 0})
        self.assertEqual(mark(found), 0)
        found.step("a")
        back_to(found, 0)
        self.assertEqual(found.where(), {"a": 0})
        found.take_back("a")
        found.let_in("a", TWICE)
        self.assertEqual(found.count(), 2)
        self.assertRaises(PauseError, back_to, found, 0)

    def test_counts(self):
        for count in range(31):
            bench = bench_with(NONE, base=(1, 1))
            bench.take_back("a")
            bench.set_count(count)
            self.assertTrue(read_page(page(bench)) == bench)
            self.assertEqual(read_page(page(bench)).count(), count)

    def test_each_place_of_four_programs(self):
        programs = [counting(3, (1, 2), (2, 2)), NONE, OTHER, counting(5, (4,), (2, 2))]
        for steps in [(0, 0, 0), (1, 2, 1), (2, 1, 2), (3, 3, 0)]:
            bench = bench_with(*programs)
            for name, times in zip("acd", steps):
                bench.step(name, times=times)
            found = read_page(page(bench))
            self.assertEqual(seen(found), seen(bench))
            self.assertEqual(found.where(), bench.where())

    def test_serial_numbers_differ(self):
        bench = bench_with(NONE, FINE, TWICE, NONE)
        bench.take_back("a")
        bench.let_in("a", FINE)
        found = read_page(page(bench))
        found.take_back("b")
        found.let_in("e", NONE)
        self.assertEqual(len({found.serial(name) for name in found.where()}), 4)
        self.assertEqual(found.serial("e"), 5)

    def test_much_in_a_page(self):
        bench = Bench((2, 2), (0, 0))
        for name, pauses in zip("abcd", [(1, 79), (40,), range(1, 9), (79,)]):
            bench.let_in(name, counting(80, pauses, (2, 2)))
        self.assertTrue(read_page(page(bench)) == bench)


HEAD = "shape 2 2\nbase 0 0\ncount 2\n"


class WrongTest(PageCase):
    def test_any_object(self):
        for thing in ANYTHING:
            self.check_wrong(1, thing)
        self.check_wrong(1, [HEAD])
        self.check_wrong(1, (page(bench_with()),))

    def test_shape(self):
        for line in ["", "shape", "shape ", " shape 2 2", "shape 2 2 ", "shape  2 2", "shape 2  2", "Shape 2 2",
                     "shape 1 2", "shape 2 33", "shape 02 2", "shape +2 2", "shape 2 -2", "shape 2 2.0", "shape 2,2",
                     "shape 2 2 2 2 2 2 2", "shape 65", "shape 0", "shape a", "base 0 0", "2 2", "shapes 2 2", "done",
                     "shape\t2", "shape 2\r", "shape 8 9", "shape " + "1" * 80, "shape " + "1" * 5000]:
            for rest in ["\nbase 0 0\ncount 0", ""]:
                self.check_wrong(1, line + rest)
        for line in ["shape 64", "shape 2 32", "shape 2 2 2 2 2 2", "shape 8 8"]:
            self.check_wrong(2, line)

    def test_base(self):
        for line in ["", "base", "base ", "base 0", "base 0 0 0", "base 2 0", "base 0 2", "base 00 0", "base 0 -0",
                     "base  0 0", "base 0 0 ", " base 0 0", "shape 2 2", "count 0", "state 0 0", "base 0 True",
                     "base 0 " + "0" * 3]:
            for rest in ["\ncount 0", "", "\nbase 0 0\ncount 0"]:
                self.check_wrong(2, "shape 2 2\n" + line + rest)

    def test_count(self):
        for line in ["", "count", "count ", "count 31", "count 00", "count 01", "count -1", "count 0 0", "count 100",
                     " count 0", "count  0", "count 0 ", "counts 0", "base 0 0", "program a 0", "count a", "done"]:
            for rest in ["", "\nprogram a 0\ndone"]:
                self.check_wrong(3, "shape 2 2\nbase 0 0\n" + line + rest)
        for count in range(31):
            self.check("shape 2 2\nbase 0 0\ncount " + str(count))
            self.assertEqual(read_page("shape 2 2\nbase 0 0\ncount " + str(count)).count(), count)

    def test_program(self):
        for line in ["", "program", "program a", "program a ", "program a 0 0", "program  a 0", " program a 0",
                     "program a 0 ", "program a 00", "program a 01", "program a -0", "program a x", "program A 0",
                     "program a1 0", "program abcdefghi 0", "program 0 a", "program  0", "program a,0", "programs a 0",
                     "done", "pause", "add 0 1", "shape 2 2", "count 2", "program a +0"]:
            self.check_wrong(4, HEAD + line + "\ndone")
            self.check_wrong(4, HEAD + line)
            self.check_wrong(6, HEAD + "program b 0\ndone\n" + line + "\ndone")
        self.check_wrong(7, HEAD + "program a 0\nadd 0 1\ndone\nprogram a 0\nadd 0 1\ndone")

    def test_more_programs_than_can_be(self):
        for count in range(6):
            lines = ["shape 2 2", "base 0 0", "count " + str(count)]
            for name in "abcde":
                lines += ["program " + name + " 0", "add 0 1", "done"]
            self.check_wrong(4 + 3 * min(count, 4), "\n".join(lines))

    def test_rows_and_pauses(self):
        for line in ["", "add 0 2", "add 2 0", "add 0", "add 0 1 1", "add 0 01", "add  0 1", " add 0 1", "add 0 1 ",
                     "add 0 1 if", "add 0 1 if 1", "add 0 1 if 0 0", "add 0 1 if 1 2", "add 0 1 if 1 0 1 0",
                     "if 1 0", "add 0 1 if 1 0 ", "mix 0 0 1", "swap 0 0", "scale 0 0", "set 0 1", "copy 0 1",
                     "set 0 0 if 1 0", "pause 1", "pauses", "where 0 1", "times 2", "undo", "end", "Pause",
                     "program b 0", "shape 2 2", "count 2", "done ", " done", "dones", "add 0 -1", "add 0 +1",
                     "add 0 1 if 01 0", "add 0 1 if 1 0 if 1 0", "multiply 0 1"]:
            self.check_wrong(5, HEAD + "program a 0\n" + line + "\nadd 0 1\ndone")
            self.check_wrong(6, HEAD + "program a 0\nadd 0 1\n" + line + "\ndone")
            self.check_wrong(8, HEAD + "program b 0\ndone\nprogram a 0\nadd 0 1\n" + line + "\ndone")
        self.check_wrong(5, "shape 2 2 2\nbase 0 0 0\ncount 1\nprogram a 0\nadd 0 1 if 2 0 1 0\ndone")

    def test_pauses_that_show_does_not_write(self):
        self.check_wrong(5, HEAD + "program a 0\npause\nadd 0 1\ndone")
        self.check_wrong(5, HEAD + "program a 0\npause\ndone")
        self.check_wrong(7, HEAD + "program a 0\nadd 0 1\npause\npause\nadd 0 1\ndone")
        self.check_wrong(7, HEAD + "program a 0\nadd 0 1\npause\ndone")
        # The line done comes first, the line program after it.
        self.check_wrong(7, HEAD + "program a 5\nadd 0 1\npause\ndone")
        self.check_wrong(9, HEAD + "program a 0\nadd 0 1\npause\nadd 0 1\npause\ndone")

    def test_more_rows_and_pauses_than_can_be(self):
        rows = [HEAD + "program a 0"] + ["add 0 1"] * 80
        self.assertIsNone(self.check("\n".join(rows + ["done"])))
        for line in ("add 0 1", "pause", "wrong"):
            self.check_wrong(85, "\n".join(rows + [line, "done"]))
            self.check_wrong(85, "\n".join(rows + [line]))
        pauses = [HEAD + "program a 0"] + ["add 0 1", "pause"] * 8 + ["add 0 1"]
        self.assertIsNone(self.check("\n".join(pauses + ["done"])))
        self.check_wrong(22, "\n".join(pauses + ["pause", "add 0 1", "done"]))
        self.assertIsNone(self.check("\n".join(pauses + ["add 0 1", "done"])))
        self.check_wrong(23, "\n".join(pauses + ["add 0 1", "pause", "add 0 1", "done"]))

    def test_place(self):
        for place in range(6):
            text = HEAD + "program a " + str(place) + "\nadd 0 1\nadd 0 1\npause\nadd 0 1\ndone"
            if place in (0, 2, 3):
                self.assertEqual(read_page(text).where(), {"a": place})
            else:
                self.check_wrong(4, text)
                self.check_wrong(4, text + "\n")
                self.check_wrong(4, text + "\nprogram b 0\ndone")
                self.check_wrong(4, text + "\nwrong")
        for place in ["81", "99", "100", "12345678901234567890"]:
            self.check_wrong(4, HEAD + "program a " + place + "\ndone")
            self.check_wrong(5, HEAD + "program a " + place + "\nwrong\ndone")
            self.check_wrong(5, HEAD + "program a " + place)
        self.check_wrong(4, HEAD + "program a 1\ndone")

    def test_place_of_a_program_that_cannot_be_let_in(self):
        text = HEAD + "program a 1\nadd 0 1\ndone\nprogram b {}\nmix 1 0 1\ndone"
        for place, line in [("0", 9), ("1", 9), ("2", 7)]:
            self.check_wrong(line, text.replace("{}", place))

    def test_programs_that_part(self):
        # The example of point 25: in the state of its page nothing could go wrong any more.
        self.check_wrong(9, HEAD + "program p 1\nadd 0 1\ndone\nprogram q 0\nmix 1 0 1\ndone")
        self.check_wrong(9, HEAD + "program p 1\nadd 0 1\ndone\nprogram q 0\nmix 1 0 1\ndone\nwrong")
        lines = ["shape 2 2 2", "base 0 0 0", "count 3"]
        for name, program in zip("pqr", three_programs()):
            lines += ["program " + name + " 0", row_line(program.rows[0]), "done"]
        self.check_wrong(12, "\n".join(lines))
        self.assertEqual(len(read_page("\n".join(lines[:9]))), 2)

    def test_too_many_positions(self):
        lines = ["shape 2 2", "base 0 0", "count 3"]
        for name, pauses in (("a", 8), ("b", 8), ("c", 3)):
            lines += ["program " + name + " 0"] + ["add 0 1", "pause"] * pauses + ["add 0 1", "done"]
        self.assertEqual(len(lines), 3 + 19 + 19 + 9)
        self.check_wrong(50, "\n".join(lines))
        self.check_wrong(50, "\n".join(lines + ["wrong"]))
        read_page("\n".join(lines[:41]))

    def test_cut_short(self):
        for bench in some_benches(123, 40) + [bench_with(OTHER, NONE, TWICE)]:
            lines = page(bench).split("\n")
            for many in range(1, len(lines)):
                cut = "\n".join(lines[:many])
                wrong = self.check(cut)
                self.assertIn(wrong, (None, many + 1))
                self.assertEqual(self.check(cut + "\n"), many + 1)
        self.check_wrong(1, "")
        self.check_wrong(2, "shape 2 2")
        self.check_wrong(3, "shape 2 2\nbase 0 0")
        self.check_wrong(5, HEAD + "program a 0")
        self.check_wrong(6, HEAD + "program a 0\nadd 0 1")
        self.check_wrong(7, HEAD + "program a 0\nadd 0 1\npause")

    def test_some_changed_pages(self):
        source = rng(124)
        told = {}
        for bench in some_benches(125, 250):
            for _ in range(8):
                lines = page(bench).split("\n")
                for _ in range(source.choice([1, 1, 1, 2, 3])):
                    self.change(source, lines)
                wrong = self.check("\n".join(lines))
                told[wrong] = told.get(wrong, 0) + 1
        for wrong in [None] + list(range(1, 12)):
            self.assertGreater(told[wrong], 15, told)

    def change(self, source, lines):
        at = source.randrange(len(lines))
        way = source.randrange(6)
        some = ["done", "pause", "add 0 1", "program a 0", "program b 1", "program zz 2", "count 1", "count 4",
                "shape 2 2", "base 0 0", "set 0 1", "mix 0 1 1", "mix 1 0 1", "", "add 0 1 if 1 0"]
        if way == 0 and len(lines) > 1:
            lines.pop(at)
        elif way == 1:
            lines.insert(at, source.choice(some))
        elif way == 2:
            lines[at] = source.choice(some)
        elif way == 3:
            lines.insert(at, lines[source.randrange(len(lines))])
        elif way == 4:
            words = lines[at].split(" ")
            words[source.randrange(len(words))] = source.choice(["0", "1", "2", "3", "5", "", "a", "01"])
            lines[at] = " ".join(words)
        else:
            place = source.randrange(len(lines))
            lines[at], lines[place] = lines[place], lines[at]


if __name__ == "__main__":
    unittest.main()
