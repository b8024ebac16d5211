"""Scripts: texts that stand for the rows and pauses of a program."""

from pauseplaces.errors import BadScript, Long
from pauseplaces.integers import integer_of, is_within
from pauseplaces.programs import inverse_rows, MOST_PAUSES, MOST_ROWS, Program
from pauseplaces.rows import is_row, loses

_MOST_DEPTH = 8
_MOST_TIMES = 20


def read(shape, text):
    """Return the program that a script stands for."""
    if not isinstance(text, str):
        raise BadScript(1)
    lines = text.split("\n") if len(text) > 0 else []
    script = Script(shape)
    for number, line in enumerate(lines, start=1):
        if not script.take(line.split(" ")):
            raise BadScript(number)
    if script.depth() > 0:
        raise BadScript(len(lines) + 1)
    return script.program()


class Script:
    """What the lines that were taken so far stand for."""

    def __init__(self, shape):
        self.shape = shape
        # The script as a whole, and behind it the blocks that have not ended, each
        # of them inside the one ahead of it.
        self.blocks = [Block("", [])]
        self.too_long = False

    def depth(self):
        """Return how many blocks have not ended."""
        return len(self.blocks) - 1

    def take(self, words):
        """Take the words of the next line; tell whether it is right."""
        if words == ["pause"]:
            self.collect([], [0])
            return True
        if words == ["end"]:
            return self.finish()
        if words[0] in ("where", "times", "undo"):
            return self.begin(words[0], [integer_of(word) for word in words[1:]])
        return self.take_row(row_of(words))

    def begin(self, word, numbers):
        """Begin a block if the line is right; tell whether it is."""
        if self.depth() == _MOST_DEPTH:
            return False
        if word == "where":
            right = self.is_condition(numbers)
        elif word == "times":
            right = len(numbers) == 1 and is_within(numbers[0], 1, _MOST_TIMES)
        else:
            right = len(numbers) == 0
        if right:
            self.blocks.append(Block(word, numbers))
        return right

    def is_condition(self, numbers):
        """Tell whether numbers are those of a where that may stand here."""
        if len(numbers) != 2 or not is_within(numbers[0], 0, len(self.shape) - 1):
            return False
        if not is_within(numbers[1], 0, self.shape[numbers[0]] - 1):
            return False
        return numbers[0] not in [j for j, _ in self.conditions()]

    def conditions(self):
        """Return the list of the conditions that rows have here from each where around them."""
        return [tuple(block.numbers) for block in self.blocks if block.word == "where"]

    def finish(self):
        """End the block that began last; tell whether there is one."""
        if self.depth() == 0:
            return False
        block = self.blocks.pop()
        rows, pauses = _contents(self.shape, block)
        self.collect(rows, pauses)
        return True

    def take_row(self, thing):
        """Take what a line reads as; tell whether it is a row that may stand here."""
        if not is_row(self.shape, thing):
            return False
        action, own = thing
        row = (action, tuple(sorted(list(own) + self.conditions())))
        # This fails if a where is about a digit that the action changes or that has a
        # condition already.
        if not is_row(self.shape, row):
            return False
        if loses(self.shape, row) and "undo" in [block.word for block in self.blocks]:
            return False
        self.collect([row], [])
        return True

    def collect(self, rows, pauses):
        """Put rows, and pauses at places among them, behind those of the last block."""
        block = self.blocks[-1]
        end = len(block.rows)
        if end + len(rows) > MOST_ROWS:
            self.too_long = True
        # Rows are never taken away again. So what else such a script stands for does
        # not matter, and repeating it could take very long.
        if self.too_long:
            return
        block.pauses = sorted(set(block.pauses + [end + place for place in pauses]))
        block.rows = block.rows + rows

    def program(self):
        """Return the program; raise Long if there is too much of it."""
        whole = self.blocks[0]
        pauses = [place for place in whole.pauses if 0 < place < len(whole.rows)]
        if self.too_long or len(pauses) > MOST_PAUSES:
            raise Long()
        return Program(self.shape, tuple(whole.rows), pauses=tuple(pauses))


class Block:
    """What stands in a script, or between a line that begins a block and its end."""

    def __init__(self, word, numbers):
        self.word = word
        self.numbers = numbers
        self.rows = []
        # Places among these rows, place 0 and the end too: in the script as a whole
        # there may be rows ahead and behind.
        self.pauses = []


def _contents(shape, block):
    """Return the list of rows and the list of pauses for which a block stands."""
    end = len(block.rows)
    if block.word == "times":
        times = block.numbers[0]
        pauses = [k * end + place for k in range(times) for place in block.pauses]
        return block.rows * times, pauses
    if block.word == "undo":
        return inverse_rows(shape, block.rows), [end - place for place in block.pauses]
    return block.rows, block.pauses


def row_of(words):
    """Return what is a row if the words are those of a row."""
    if "if" not in words:
        return _action_of(words), ()
    cut = words.index("if")
    numbers = [integer_of(word) for word in words[cut + 1:]]
    if len(numbers) == 0:
        return None
    pairs = [tuple(numbers[k:k + 2]) for k in range(0, len(numbers), 2)]
    return _action_of(words[:cut]), tuple(pairs)


def _action_of(words):
    return tuple(words[:1] + [integer_of(word) for word in words[1:]])


def show(program):
    """Return the text that writes a program."""
    lines = []
    for place, row in enumerate(program.rows):
        if place in program:
            lines.append("pause")
        lines.append(_line_of(row))
    return "\n".join(lines)


def _line_of(row):
    action, conditions = row
    words = [str(part) for part in action]
    if len(conditions) > 0:
        words.append("if")
    for j, v in conditions:
        words.extend([str(j), str(v)])
    return " ".join(words)
