"""Programs: rows with the places at which they may be paused."""

from pauseplaces.errors import BadPauses, BadRow, BadShape, BadState, Long, Losing
from pauseplaces.integers import is_within
from pauseplaces.rows import done, inverse, is_row, joined, loses
from pauseplaces.shapes import is_shape, is_state

MOST_ROWS = 80
MOST_PAUSES = 8


class Program:
    """Rows that change the states of one shape, and the pauses among them."""

    def __init__(self, shape, rows, *, pauses=()):
        if not is_shape(shape):
            raise BadShape()
        wrong = _first_no_row(shape, rows)
        if wrong is not None:
            raise BadRow(wrong)
        if len(rows) > MOST_ROWS:
            raise Long()
        if not _are_pauses(pauses, len(rows)):
            raise BadPauses()
        self.shape = shape
        self.rows = rows
        self.pauses = pauses
        self.places = (0,)
        if len(rows) > 0:
            self.places = (0,) + pauses + (len(rows),)

    def __len__(self):
        return len(self.rows)

    def __eq__(self, other):
        if not isinstance(other, Program):
            return False
        return self.shape == other.shape and self.rows == other.rows and self.pauses == other.pauses

    def __contains__(self, x):
        # Without the first test True would be found where 1 is a pause.
        return is_within(x, 1, len(self.rows)) and x in self.pauses


def _first_no_row(shape, rows):
    """Return the index of the first item that is no row, or None; 0 if there are no items."""
    if not isinstance(rows, tuple):
        return 0
    for at, row in enumerate(rows):
        if not is_row(shape, row):
            return at
    return None


def _are_pauses(thing, end):
    if not isinstance(thing, tuple) or len(thing) > MOST_PAUSES:
        return False
    last = 0
    for place in thing:
        if not is_within(place, last + 1, end - 1):
            return False
        last = place
    return True


def with_pauses(program, pauses):
    """Return a program with the same rows and other pauses."""
    return Program(program.shape, program.rows, pauses=pauses)


def sum_of(one, other):
    """Return the program that does what the one does and then what the other does."""
    if one.shape != other.shape:
        raise BadShape()
    end = len(one)
    rows = one.rows + other.rows
    # The joint is a pause only where it is neither place 0 nor the end.
    joint = (end,) if 0 < end < len(rows) else ()
    pauses = one.pauses + joint + tuple([end + place for place in other.pauses])
    if len(rows) > MOST_ROWS or len(pauses) > MOST_PAUSES:
        raise Long()
    return Program(one.shape, rows, pauses=pauses)


def inverse_of(program):
    """Return the program that undoes the program; raise Losing with its first row that loses."""
    losing = first_losing(program)
    if losing is not None:
        raise Losing(losing)
    end = len(program)
    rows = tuple(inverse_rows(program.shape, program.rows))
    pauses = tuple([end - place for place in program.pauses[::-1]])
    return Program(program.shape, rows, pauses=pauses)


def first_losing(program):
    """Return the index of the first row that loses, or None."""
    for at, row in enumerate(program.rows):
        if loses(program.shape, row):
            return at
    return None


def inverse_rows(shape, rows):
    """Return the list of rows that undoes several rows, of which none loses."""
    return [inverse(shape, row) for row in rows[::-1]]


def stretch(program, index):
    """Return the rows of the stretch with an index."""
    return program.rows[program.places[index]:program.places[index + 1]]


def run(program, state):
    """Return the state after all rows."""
    if not is_state(program.shape, state):
        raise BadState()
    return after(program.shape, program.rows, state)


def after(shape, rows, state):
    """Return the state after several rows."""
    for row in rows:
        state = done(shape, row, state)
    return state


def log(program, state):
    """Return the list of the states before and after each row."""
    if not is_state(program.shape, state):
        raise BadState()
    found = [state]
    for row in program.rows:
        found.append(done(program.shape, row, found[-1]))
    return found


def joined_by(program):
    """Return two different states from which the program ends in one state, or None."""
    losing = first_losing(program)
    if losing is None:
        return None
    # The rows ahead of it can be undone, so that they lead to any two states from two others.
    back = inverse_rows(program.shape, program.rows[:losing])
    one, other = joined(program.shape, program.rows[losing])
    return after(program.shape, back, one), after(program.shape, back, other)
