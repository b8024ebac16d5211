import copy
import unittest

from pauseplaces.errors import BadScript, Long
from pauseplaces.programs import Program
from pauseplaces.rows import inverse
from pauseplaces.scripts import read, show
from tests.plain import counting, rng, row, row_loses, rows_of, some_program
from tests.things import ANYTHING, all_rows, changed

SHAPE = (4, 2, 3)
SHAPES = [(2,), (4,), (2, 3), (2, 2, 2), (4, 2, 4)]
ADD = row("add", 0, 1)
PAUSE = "pause"


def line_of(one):
    action, conditions = one
    words = [str(part) for part in action] + (["if"] if conditions else [])
    return " ".join(words + [str(number) for pair in conditions for number in pair])


class ScriptCase(unittest.TestCase):
    def check(self, text, rows, pauses=(), shape=SHAPE):
        found = read(shape, text)
        self.assertIs(type(found), Program)
        self.assertEqual((found.shape, found.rows, found.pauses), (shape, tuple(rows), pauses), text)

    def check_wrong(self, text, line, shape=SHAPE):
        with self.assertRaises(BadScript) as held:
            read(shape, text)
        self.assertEqual(held.exception.line, line, text)

    def check_wrong_line(self, line, shape=SHAPE):
        """A line that is wrong wherever it stands."""
        for ahead in [[], ["add 0 1"], ["pause", "add 0 1", "undo", "add 0 1", "end"]]:
            for behind in [[], ["add 0 1"], ["no line"]]:
                lines = ahead + [line] + behind
                # One empty line alone is no line.
                if lines != [""]:
                    self.check_wrong("\n".join(lines), len(ahead) + 1, shape)

    def check_long(self, text, shape=SHAPE):
        with self.assertRaises(Long):
            read(shape, text)


class RowsTest(ScriptCase):
    def test_empty_text(self):
        self.check("", ())

    def test_each_row(self):
        for shape in SHAPES:
            for one in all_rows(shape):
                self.check(line_of(one), [one], shape=shape)

    def test_rows_in_sequence(self):
        self.check("add 0 1\nset 1 0\nmix 2 0 2 if 0 3 1 1",
                   [ADD, row("set", 1, 0), row("mix", 2, 0, 2, when=((0, 3), (1, 1)))])

    def test_values_of_two_digits(self):
        self.check("add 0 10 if 1 1", [row("add", 0, 10, when=((1, 1),))], shape=(32, 2))
        self.check("add 1 1 if 0 31", [row("add", 1, 1, when=((0, 31),))], shape=(32, 2))

    def test_no_rows_of_the_shape(self):
        for line in ["add 3 1", "add 0 4", "add 1 2", "mix 0 0 1", "mix 0 1 4", "scale 2 3",
                     "swap 0 1", "swap 0 0", "copy 1 1", "copy 0 3", "set 1 2", "add 0 1 if 0 1",
                     "add 0 1 if 1 2", "add 0 1 if 2 1 1 1", "add 0 1 if 1 1 1 1", "add 0 1 if 3 0",
                     "swap 0 2"]:
            self.check_wrong_line(line)

    def test_lengths(self):
        for line in ["add", "add 0", "add 0 1 1", "mix 0 1", "mix 0 1 1 1", "scale 0", "swap 0",
                     "copy 0 1 1", "set 1", "add 0 1 if", "add 0 1 if 1", "add 0 1 if 1 1 2",
                     "add if 1 1", "add 0 if 1 1", "if 1 1", "if", "add 0 1 if 1 1 if 2 1",
                     "add 0 1 1 1", "add 0 1 if if 1 1", "add 0 1 if 1 1 if"]:
            self.check_wrong_line(line)

    def test_no_lines(self):
        for line in ["", " ", "hello", "ADD 0 1", "Add 0 1", "sub 0 1", "add,0,1", "add 0 1;",
                     "# add 0 1", "Pause", "pause 1", "pause pause", "pauses", "End", "wher 1 1",
                     "0", "1 add 0", "add a b", "add 0 x", "add 0 1 if a b", "add 0 1 when 1 1",
                     "add 0 1 IF 1 1"]:
            self.check_wrong_line(line)

    def test_blanks(self):
        for line in [" add 0 1", "add 0 1 ", "add  0 1", "add 0  1", "  ", " pause", "pause ",
                     "add 0 1 if  1 1", "add 0 1  if 1 1", "undo ", " undo", "where  1 1",
                     "times 2 ", "add\t0 1", "add 0 1\r"]:
            self.check_wrong_line(line)

    def test_how_integers_are_written(self):
        for line in ["add 00 1", "add 0 01", "add 0 +1", "add +0 1", "add -0 1", "add 0 -1",
                     "add 0 1.0", "add 0 0x1", "add 0 1_0", "add 0 1e0", "add 0 True", "add 0 001",
                     "add 0 100000000000000000000000000000", "add 0 1 if 01 1", "add 0 1 if 1 -1",
                     "add 0 1 if 1 01", "where 01 1", "where 1 +1", "times 02", "times +2", "times -1"]:
            self.check_wrong_line(line)
        self.check_wrong_line("add 0 010", (32,))
        self.check_wrong_line("add 0 \u0661")
        self.check_wrong_line("add 0 \u00b9")
        self.check_wrong_line("add 0 0" + "1" * 70)

    def test_empty_lines(self):
        self.check_wrong("\n", 1)
        self.check_wrong("add 0 1\n", 2)
        self.check_wrong("\nadd 0 1", 1)
        self.check_wrong("add 0 1\n\nadd 0 1", 2)
        self.check_wrong("undo\nadd 0 1\nend\n", 4)

    def test_any_object_that_is_no_string(self):
        for thing in ANYTHING:
            if not isinstance(thing, str):
                before = copy.deepcopy(thing)
                self.check_wrong(thing, 1)
                self.assertEqual(thing, before)

    def test_by_name(self):
        self.assertEqual(read(text="add 0 1", shape=(2,)), counting(1))


class PausesTest(ScriptCase):
    def test_pauses(self):
        self.check("add 0 1\npause\nadd 0 1", [ADD] * 2, (1,))
        self.check("add 0 1\nadd 0 1\npause\nadd 0 1\npause\nadd 0 1", [ADD] * 4, (2, 3))

    def test_left_out(self):
        self.check("pause", [])
        self.check("pause\npause", [])
        self.check("pause\nadd 0 1", [ADD])
        self.check("add 0 1\npause", [ADD])
        self.check("add 0 1\npause\npause\nadd 0 1\npause\npause", [ADD] * 2, (1,))

    def test_in_times(self):
        self.check("times 3\nadd 0 1\npause\nend", [ADD] * 3, (1, 2))
        self.check("times 3\npause\nadd 0 1\nend", [ADD] * 3, (1, 2))
        self.check("times 3\npause\nadd 0 1\npause\nend\nadd 0 1", [ADD] * 4, (1, 2, 3))
        self.check("times 2\nadd 0 1\npause\nadd 0 1\nend", [ADD] * 4, (1, 3))
        self.check("add 0 1\ntimes 2\npause\nend\nadd 0 1", [ADD] * 2, (1,))

    def test_in_undo(self):
        three = row("add", 0, 3)
        self.check("undo\nadd 0 1\npause\nadd 0 1\nadd 0 1\nend", [three] * 3, (2,))
        self.check("undo\npause\nadd 0 1\nadd 0 1\nend\nadd 0 1", [three, three, ADD], (2,))
        self.check("add 0 1\nundo\nadd 0 1\npause\nend", [ADD, three], (1,))
        self.check("undo\ntimes 2\nadd 0 1\nadd 0 1\npause\nend\nend", [three] * 4, (2,))

    def test_in_where(self):
        one = row("add", 0, 1, when=((1, 1),))
        self.check("where 1 1\npause\nadd 0 1\npause\nadd 0 1\npause\nend", [one] * 2, (1,))
        self.check("add 0 1\nwhere 1 1\npause\nend\nadd 0 1", [ADD] * 2, (1,))

    def test_eight_and_nine(self):
        self.check("add 0 1\n" + "pause\nadd 0 1\n" * 7 + "pause\nadd 0 1", [ADD] * 9, tuple(range(1, 9)))
        self.check("times 9\nadd 0 1\npause\nend", [ADD] * 9, tuple(range(1, 9)))
        self.check_long("times 10\nadd 0 1\npause\nend")
        self.check_long("add 0 1\n" + "pause\nadd 0 1\n" * 8 + "pause\nadd 0 1")

    def test_pauses_that_are_left_out_are_not_too_many(self):
        self.check("\n".join([PAUSE] * 20 + ["add 0 1"] + [PAUSE] * 20), [ADD])
        text = "\n".join(["times 20"] * 8 + [PAUSE] + ["end"] * 8)
        self.check("add 0 1\n" + text + "\nadd 0 1", [ADD] * 2, (1,))
        self.check(text, [])


class BlocksTest(ScriptCase):
    def test_where(self):
        self.check("where 1 1\nadd 0 1\nend\nadd 0 1", [row("add", 0, 1, when=((1, 1),)), ADD])

    def test_conditions_of_where_and_of_the_row_together(self):
        one = row("add", 1, 1, when=((0, 3), (2, 2)))
        self.check("where 2 2\nadd 1 1 if 0 3\nend", [one])
        self.check("where 0 3\nadd 1 1 if 2 2\nend", [one])
        self.check("where 0 3\nwhere 2 2\nadd 1 1\nend\nend", [one])
        self.check("where 2 2\nwhere 0 3\nadd 1 1\nend\nend", [one])
        self.check("where 2 2\nadd 0 1 if 1 1\nend", [row("add", 0, 1, when=((1, 1), (2, 2)))])
        self.check("where 1 0\nadd 0 1 if 2 0\nend", [row("add", 0, 1, when=((1, 0), (2, 0)))])

    def test_where_ends(self):
        self.check("where 1 0\nwhere 2 0\nend\nadd 0 1\nend\nwhere 1 1\nset 0 0\nend",
                   [row("add", 0, 1, when=((1, 0),)), row("set", 0, 0, when=((1, 1),))])

    def test_a_digit_that_is_read(self):
        self.check("where 1 1\nmix 0 1 1\nend", [row("mix", 0, 1, 1, when=((1, 1),))])
        self.check("where 1 1\ncopy 0 1\nend", [row("copy", 0, 1, when=((1, 1),))])

    def test_wrong_where(self):
        for line in ["where", "where 1", "where 1 1 1", "where 3 0", "where 1 2", "where 0 4",
                     "where -1 0", "where 1 x", "where x 1", "where if 1 1", "where 1 1 end"]:
            self.check_wrong_line(line)

    def test_rows_that_do_not_go_with_where(self):
        for word, line in [("where 0 1", "add 0 1"), ("where 0 1", "set 0 1"), ("where 0 0", "copy 0 1"),
                           ("where 1 1", "add 0 1 if 1 1"), ("where 1 1", "add 0 1 if 1 0"),
                           ("where 1 1", "add 0 1 if 1 1 2 1"), ("where 2 1", "add 0 1 if 1 1 2 0")]:
            self.check_wrong(word + "\n" + line + "\nend", 2)
            self.check_wrong("undo\n" + word + "\ntimes 2\n" + line + "\nend\nend\nend", 4)
            self.check_wrong(word + "\nend\n" + word + "\npause\n" + line, 5)
        self.check_wrong("where 0 1\nswap 0 2\nend", 2, (4, 2, 4))
        self.check_wrong("where 2 1\nswap 0 2\nend", 2, (4, 2, 4))
        self.check("where 1 1\nswap 0 2\nend", [row("swap", 0, 2, when=((1, 1),))], shape=(4, 2, 4))

    def test_where_in_where(self):
        for v in (0, 1):
            self.check_wrong("where 1 1\nwhere 1 " + str(v) + "\nend\nend", 2)
        self.check_wrong("where 1 1\ntimes 2\nundo\nwhere 2 0\nwhere 1 0", 5)
        self.check("where 1 1\nend\nwhere 1 1\nend", [])

    def test_times(self):
        self.check("times 1\nadd 0 1\nend", [ADD])
        self.check("times 20\nadd 0 1\nend", [ADD] * 20)
        self.check("times 2\nadd 0 1\nset 1 0\nend", [ADD, row("set", 1, 0)] * 2)
        self.check("times 2\ntimes 3\nadd 0 1\nend\nset 1 0\nend", ([ADD] * 3 + [row("set", 1, 0)]) * 2)
        self.check("times 5\nend", [])

    def test_wrong_times(self):
        for line in ["times", "times 0", "times 21", "times 99", "times 100", "times x", "times 2 2",
                     "times if", "times 2 if 1 1"]:
            self.check_wrong_line(line)

    def test_undo(self):
        rows = [row("add", 0, 1), row("mix", 0, 1, 1), row("scale", 0, 3), row("add", 2, 1, when=((0, 1),))]
        text = "\n".join(["undo"] + [line_of(one) for one in rows] + ["end"])
        self.check(text, [inverse(SHAPE, one) for one in rows[::-1]])
        self.check("undo\nundo\nadd 0 1\nadd 2 1\nend\nend", [ADD, row("add", 2, 1)])
        self.check("undo\nswap 0 2\nadd 0 3\nend", [row("add", 0, 1), row("swap", 0, 2)], shape=(4, 2, 4))

    def test_wrong_undo(self):
        for line in ["undo 1", "undo undo", "undo if"]:
            self.check_wrong_line(line)

    def test_losing_rows_in_undo(self):
        for line in ["set 0 1", "copy 0 1", "scale 0 2", "scale 0 0"]:
            self.check_wrong("undo\n" + line + "\nend", 2)
            self.check_wrong("add 0 1\nundo\nundo\ntimes 2\nwhere 2 1\n" + line, 6)
            self.assertEqual(len(read(SHAPE, "undo\nend\n" + line)), 1)
        self.assertEqual(len(read(SHAPE, "undo\nscale 0 3\nend")), 1)

    def test_all_in_each_other(self):
        back = row("add", 0, 3, when=((1, 1),))
        forth = row("add", 2, 1, when=((1, 1),))
        last = row("add", 2, 2)
        text = "where 1 1\nundo\ntimes 2\nadd 0 1\npause\nadd 2 2\nend\nend\nend\nadd 2 2"
        self.check(text, [forth, back] * 2 + [last], (1, 3))

    def test_end(self):
        self.check_wrong_line("end")
        self.check_wrong("undo\nend\nend", 3)
        self.check_wrong("end 1", 1)
        self.check_wrong("undo\nend 1", 2)
        self.check("undo\nend", [])

    def test_depth(self):
        for word in ["undo", "times 1"]:
            for many in (1, 7, 8):
                self.check("\n".join([word] * many + ["add 0 0"] + ["end"] * many), [row("add", 0, 0)])
            for many in (9, 10):
                self.check_wrong("\n".join([word] * many + ["end"] * many), 9)
        self.check_wrong("\n".join(["undo"] * 8 + ["where 0 0"]), 9)
        eight = "\n".join(["undo"] * 8 + ["end"] * 8)
        self.check(eight + "\n" + eight, [])
        self.check_wrong(eight + "\n" + eight + "\n" + "\n".join(["undo"] * 9), 41)
        self.check("\n".join(["undo"] * 7 + ["times 2", "end", "times 2", "end"] + ["end"] * 7), [])

    def test_text_that_ends_within_a_block(self):
        self.check_wrong("undo", 2)
        self.check_wrong("times 2\nadd 0 1", 3)
        self.check_wrong("where 1 1\nundo\nend\nadd 0 1\npause", 6)
        self.check_wrong("undo\nundo\nend", 4)

    def test_first_wrong_line(self):
        self.check_wrong("add 0 1\nhello\nend\nadd 9 9", 2)
        self.check_wrong("undo\nset 0 0\nhello", 2)
        self.check_wrong("undo\nhello", 2)
        self.check_wrong("undo\nadd 0 1\nend\nend\nundo", 4)


class LongTest(ScriptCase):
    def test_eighty_and_more(self):
        self.check("\n".join(["add 0 1"] * 80), [ADD] * 80)
        self.check_long("\n".join(["add 0 1"] * 81))
        self.check_long("\n".join(["add 0 1"] * 200))
        self.check("times 4\ntimes 20\nadd 0 1\nend\nend", [ADD] * 80)
        self.check_long("times 4\ntimes 20\nadd 0 1\nend\nend\nadd 0 1")
        self.check_long("add 0 1\ntimes 4\ntimes 20\nadd 0 1\nend\nend")
        self.check_long("times 9\nadd 0 1\nadd 0 1\nadd 0 1\nadd 0 1\nadd 0 1\n"
                        "add 0 1\nadd 0 1\nadd 0 1\nadd 0 1\nend")

    def test_very_many(self):
        deep = ["times 20"] * 8 + ["add 0 1", PAUSE, "add 0 1"] + ["end"] * 8
        self.check_long("\n".join(deep))
        self.check_long("\n".join(deep * 10))
        body = ["add 0 1", PAUSE] * 60
        self.check_long("\n".join(["times 20"] * 7 + ["undo"] + body + ["end"] * 8))
        half = ["times 20"] * 2 + ["add 0 1", "end", "end"]
        self.check_long("\n".join(["undo"] * 6 + half * 36 + ["end"] * 6))

    def test_a_wrong_line_is_told_first(self):
        many = ["add 0 1"] * 81
        self.check_wrong("\n".join(many + ["hello"]), 82)
        self.check_wrong("\n".join(["times 20", "times 20"] + many + ["end", "end", "add 4 0"]), 86)
        self.check_wrong("\n".join(["times 2"] + many), 83)
        self.check_wrong("\n".join(many + ["end"]), 82)
        self.check_wrong("\n".join(many + ["undo", "set 0 0"]), 83)
        self.check_wrong("\n".join(many + ["where 1 1", "add 1 1"]), 83)
        self.check_wrong("\n".join(many + ["undo"] * 9), 90)
        self.check_wrong("\n".join(["add 0 1", PAUSE] * 10 + [""]), 21)
        self.check_wrong("\n".join(["times 20"] * 8 + many[:9] + ["end"] * 9), 26)


class Plain:
    """What point 8 says, by recursion over lines; a pause stays among the rows as a word."""

    def __init__(self, shape, lines):
        self.shape, self.lines, self.at = shape, lines, 0

    def wrong(self):
        raise BadScript(self.at + 1)

    def items(self, around):
        found = []
        while True:
            if self.at == len(self.lines):
                if around:
                    self.wrong()
                return found
            words = self.lines[self.at].split(" ")
            if words == ["end"] and around:
                return found
            if words == [PAUSE]:
                found.append(PAUSE)
                self.at += 1
            elif words[0] in ("where", "times", "undo"):
                found += self.block(words, around)
            else:
                found.append(self.row(around))
                self.at += 1

    def block(self, words, around):
        lines = {"undo": ["undo"], "times": ["times " + str(n) for n in range(1, 21)],
                 "where": ["where " + str(j) + " " + str(v)
                           for j, base in enumerate(self.shape) for v in range(base)]}
        if " ".join(words) not in lines[words[0]] or len(around) == 8:
            self.wrong()
        if words[0] == "where" and words[1] in [other[1] for other in around if other[0] == "where"]:
            self.wrong()
        self.at += 1
        inner = self.items(around + [words])
        self.at += 1
        if words[0] == "times":
            return inner * int(words[1])
        if words[0] == "undo":
            return [one if one == PAUSE else inverse(self.shape, one) for one in inner[::-1]]
        return inner

    def row(self, around):
        known = {line_of(one): one for one in all_rows(self.shape)}
        one = known.get(self.lines[self.at])
        if one is None:
            self.wrong()
        if row_loses(self.shape, one) and ["undo"] in around:
            self.wrong()
        action, conditions = one
        wheres = [(int(words[1]), int(words[2])) for words in around if words[0] == "where"]
        for j, _ in wheres:
            if j in changed(action) or j in [k for k, _ in conditions]:
                self.wrong()
        return action, tuple(sorted(list(conditions) + wheres))


def plainly_read(shape, lines):
    rows, pauses = [], set()
    for item in Plain(shape, lines).items([]):
        if item == PAUSE:
            pauses.add(len(rows))
        else:
            rows.append(item)
    pauses = tuple(sorted(place for place in pauses if 0 < place < len(rows)))
    if len(rows) > 80 or len(pauses) > 8:
        raise Long()
    return Program(shape, tuple(rows), pauses=pauses)


def outcome(call, *things):
    try:
        return call(*things)
    except BadScript as error:
        return error.line
    except Long:
        return "long"


class SomeScriptsTest(unittest.TestCase):
    def lines(self, source, shape, depth, losing):
        found = []
        for _ in range(source.randint(0, 4)):
            kind = source.random()
            if kind < 0.5 or depth == 0:
                found.append(line_of(source.choice(rows_of(shape, losing))))
            elif kind < 0.65:
                found.append(PAUSE)
            else:
                j = source.randrange(len(shape))
                word = source.choice(["undo", "times " + str(source.choice([1, 2, 3, 3, 20])),
                                      "where " + str(j) + " " + str(source.randrange(shape[j]))])
                found += [word] + self.lines(source, shape, depth - 1, losing) + ["end"]
        return found

    def spoiled(self, source, lines):
        lines = list(lines)
        for _ in range(source.randint(0, 2)):
            at = source.randrange(len(lines) + 1)
            lines[at:at + source.randint(0, 1)] = source.choice(
                [[], ["end"], ["undo"], ["times 21"], ["add 0"], ["where 0 0"], [""], ["set 0 0"]])
        return lines

    def test_as_the_point_says(self):
        source = rng(20)
        seen = {}
        for _ in range(3000):
            shape = source.choice([(2,), (2, 3), (4, 2), (2, 2, 2)])
            lines = self.lines(source, shape, 3, source.random() < 0.2)
            if source.random() < 0.5:
                lines = self.spoiled(source, lines)
            text = "\n".join(lines)
            if text != "":
                expected = outcome(plainly_read, shape, lines)
                self.assertEqual(outcome(read, shape, text), expected, text)
                seen[type(expected)] = seen.get(type(expected), 0) + 1
        self.assertEqual(len(seen), 3)
        self.assertGreater(min(seen.values()), 20, seen)


class ShowTest(unittest.TestCase):
    def test_rows_and_pauses(self):
        self.assertEqual(show(Program((2,), ())), "")
        self.assertEqual(show(counting(1)), "add 0 1")
        self.assertEqual(show(counting(3, (1, 2))), "add 0 1\npause\nadd 0 1\npause\nadd 0 1")
        rows = (row("mix", 0, 1, 3, when=((1, 1), (2, 0))), row("swap", 0, 3), row("copy", 2, 0),
                row("scale", 0, 2, when=((1, 0),)), row("set", 0, 3))
        self.assertEqual(
            show(Program((4, 2, 2, 4), rows, pauses=(2,))),
            "mix 0 1 3 if 1 1 2 0\nswap 0 3\npause\ncopy 2 0\nscale 0 2 if 1 0\nset 0 3")

    def test_each_row(self):
        for shape in SHAPES:
            for one in all_rows(shape):
                self.assertEqual(show(Program(shape, (one,))), line_of(one))

    def test_read_leads_back(self):
        source = rng(21)
        for _ in range(300):
            shape = source.choice(SHAPES)
            program = some_program(source, shape, 20, losing=True)
            self.assertEqual(read(shape, show(program)), program)
        program = counting(80, range(10, 18))
        self.assertEqual(read((2,), show(program)), program)

    def test_by_name(self):
        self.assertEqual(show(program=counting(1)), "add 0 1")


class ExamplesTest(unittest.TestCase):
    def test_read(self):
        made = read((2, 2), "where 1 1\nadd 0 1\npause\nend\nundo\nadd 1 1\nend")
        self.assertEqual([made.rows, made.pauses],
                         [((("add", 0, 1), ((1, 1),)), (("add", 1, 1), ())), (1,)])

    def test_show(self):
        self.assertEqual(show(read((2, 2), "times 2\nadd 0 1\npause\nend")), "add 0 1\npause\nadd 0 1")


if __name__ == "__main__":
    unittest.main()
