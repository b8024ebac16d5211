"""Pages: texts that tell all of a bench but its marks."""

from pauseplaces.benches import Bench, is_name, MOST_LET_IN, MOST_OPEN
from pauseplaces.errors import BadPage, Part, TooMany
from pauseplaces.integers import integer_of, is_within
from pauseplaces.programs import MOST_PAUSES, MOST_ROWS, Program
from pauseplaces.rows import is_row, loses
from pauseplaces.scripts import row_of, show
from pauseplaces.shapes import is_shape, is_state


def page(bench):
    """Return the page of a bench."""
    lines = [_line_of("shape", bench.shape), _line_of("base", bench.base()), _line_of("count", [bench.count()])]
    for name, place in bench.where().items():
        program = bench.program(name)
        lines.append(f"program {name} {place}")
        if len(program) > 0:
            lines.append(show(program))
        lines.append("done")
    return "\n".join(lines)


def _line_of(word, numbers):
    return " ".join([word] + [str(number) for number in numbers])


class Lines:
    """The lines of a page, which are read one after the other."""

    def __init__(self, texts):
        self.texts = texts
        self.number = 0

    def are_left(self):
        """Tell whether there is a line that was not read."""
        return self.number < len(self.texts)

    def words(self):
        """Read the next line and return its words; if there is none, that line is wrong."""
        left = self.are_left()
        self.number += 1
        self.check(left)
        return self.texts[self.number - 1].split(" ")

    def check(self, right):
        """Raise BadPage with the line that was read last if it is not right."""
        if not right:
            raise BadPage(self.number)

    def integers(self, word):
        """Read the next line and return the integers behind its word, None for what is no integer."""
        words = self.words()
        self.check(words[0] == word)
        return tuple([integer_of(one) for one in words[1:]])


def read_page(text):
    """Return a bench without marks of which a text is the page."""
    if not isinstance(text, str):
        raise BadPage(1)
    lines = Lines(text.split("\n"))
    shape = lines.integers("shape")
    lines.check(is_shape(shape))
    state = lines.integers("base")
    lines.check(is_state(shape, state))
    counts = lines.integers("count")
    lines.check(len(counts) == 1 and is_within(counts[0], 0, MOST_LET_IN))
    bench = Bench(shape, state)
    while lines.are_left():
        _read_program(lines, bench, min(MOST_OPEN, counts[0]))
    bench.set_count(counts[0])
    return bench


def _read_program(lines, bench, most):
    """Read the lines of a program and let it in, at its place."""
    words = lines.words()
    lines.check(len(bench) < most and _is_head(words) and words[1] not in bench)
    first = lines.number
    program = _read_rows(lines, bench.shape)
    name, place = words[1], integer_of(words[2])
    if place not in program.places:
        raise BadPage(first)
    try:
        bench.let_in(name, program)
    except (TooMany, Part):
        raise BadPage(lines.number) from None
    bench.step(name, times=program.places.index(place))


def _is_head(words):
    """Tell whether words are those of a line program."""
    if len(words) != 3 or words[0] != "program":
        return False
    # Whether the place is one of the program's is only known when it is complete.
    return is_name(words[1]) and integer_of(words[2]) is not None


def _read_rows(lines, shape):
    """Read the lines of a program up to its line done, and return the program."""
    rows = []
    pauses = []
    words = lines.words()
    while words != ["done"]:
        if words == ["pause"]:
            lines.check(_may_pause(rows, pauses))
            pauses.append(len(rows))
        else:
            row = row_of(words)
            lines.check(len(rows) < MOST_ROWS and is_row(shape, row) and not loses(shape, row))
            rows.append(row)
        words = lines.words()
    # A pause ahead of the line done would be at the end.
    lines.check(len(rows) not in pauses)
    return Program(shape, tuple(rows), pauses=tuple(pauses))


def _may_pause(rows, pauses):
    """Tell whether a program with these rows and pauses may have a pause behind them, and go on."""
    return 0 < len(rows) < MOST_ROWS and len(rows) not in pauses and len(pauses) < MOST_PAUSES
