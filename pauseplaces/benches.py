"""Benches: programs that are let in, executed stretch by stretch, and closed."""

from pauseplaces.errors import (
    AtEnd, AtStart, BadMove, BadName, BadShape, BadState, Full, NameTaken, NoName, NotDone, Part, Spent)
from pauseplaces.grids import can_go, check_losing, part
from pauseplaces.programs import after, run, with_pauses
from pauseplaces.shapes import is_shape, is_state

MOST_OPEN = 4
MOST_LET_IN = 30
_MOST_LETTERS = 8


class Bench:
    """Open programs, each at one of its places, and the base from which their choice is right."""

    def __init__(self, shape, state):
        if not is_shape(shape):
            raise BadShape()
        if not is_state(shape, state):
            raise BadState()
        self.shape = shape
        self.bottom = state
        self.many = 0
        # What is known of each open program, in the order in which they were let in.
        self.names = []
        self.opened = []
        self.places = []
        self.serials = []
        self.marked = []

    def let_in(self, name, program):
        """Let a program in, at its place 0."""
        if not is_name(name):
            raise BadName()
        if name in self.names:
            raise NameTaken(name)
        check_room(self)
        if self.many >= MOST_LET_IN:
            raise Spent()
        check_fits(self.shape, program)
        check_together(self.names + [name], self.opened + [program], self.bottom)
        self.names.append(name)
        # A program of its own, so that nobody else can change it.
        self.opened.append(with_pauses(program, program.pauses))
        self.places.append(0)
        self.serials.append(self.many)
        self.many += 1

    def index_of(self, name):
        """Return the index of an open program among all; raise NoName of any other object."""
        if name not in self.names:
            raise NoName(name)
        return self.names.index(name)

    def step(self, name, *, times=1):
        """Execute the next stretches of a program."""
        k = self.index_of(name)
        places = self.opened[k].places
        at = places.index(self.places[k]) + times
        if at >= len(places):
            raise AtEnd(name)
        self.places[k] = places[at]

    def back(self, name, *, times=1):
        """Undo the last executed stretches of a program."""
        k = self.index_of(name)
        places = self.opened[k].places
        at = places.index(self.places[k]) - times
        if at < 0:
            raise AtStart(name)
        self.places[k] = places[at]

    def moves(self, steps):
        """Do several steps and steps back, or none if one of them cannot be done."""
        if not isinstance(steps, list):
            raise BadMove(0)
        executed = [program.places.index(place) for program, place in zip(self.opened, self.places)]
        for at, thing in enumerate(steps):
            pair = _pair_of(self.names, thing)
            if not can_go(self.opened, executed, pair):
                raise BadMove(at)
            executed[pair[0]] += pair[1]
        self.places = [program.places[index] for program, index in zip(self.opened, executed)]

    def close(self, name):
        """Close a program at its end, so that the base has its rows executed."""
        k = self.index_of(name)
        if self.places[k] < len(self.opened[k]):
            raise NotDone(name)
        self.bottom = run(self.opened[k], self.bottom)
        self.leave(k)

    def take_back(self, name):
        """Take a program back, so that nothing of it has been executed."""
        self.leave(self.index_of(name))

    def leave(self, k):
        """Let an open program be one no more."""
        self.names.pop(k)
        self.opened.pop(k)
        self.places.pop(k)
        self.serials.pop(k)

    def base(self):
        """Return the base."""
        return self.bottom

    def state(self):
        """Return the state of the position."""
        # Each order of the prefixes leads there, because the choice is right from the base.
        found = self.bottom
        for program, place in zip(self.opened, self.places):
            found = after(self.shape, program.rows[:place], found)
        return found

    def where(self):
        """Return a dict from the names of the open programs to their places."""
        return {name: place for name, place in zip(self.names, self.places)}

    def program(self, name):
        """Return a program equal to an open one as it is now."""
        found = self.opened[self.index_of(name)]
        return with_pauses(found, found.pauses)

    def count(self):
        """Return how many programs were let in in all."""
        return self.many

    def __len__(self):
        return len(self.names)

    def __contains__(self, x):
        return x in self.names

    def __eq__(self, other):
        if not isinstance(other, Bench):
            return False
        if self.shape != other.shape or self.bottom != other.bottom or self.many != other.many:
            return False
        return self.names == other.names and self.opened == other.opened and self.places == other.places

    def serial(self, name):
        """Return how many programs were let in before an open one."""
        return self.serials[self.index_of(name)]

    def set_pauses(self, name, pauses):
        """Give an open program other pauses."""
        k = self.index_of(name)
        self.opened[k] = with_pauses(self.opened[k], pauses)

    def set_count(self, count):
        """Set how many programs were let in in all."""
        self.many = count

    def marks(self):
        """Return the list of the marks itself, which are dicts from serial numbers to places."""
        return self.marked

    def copy(self):
        """Return an equal bench with equal marks and serial numbers that is independent."""
        found = Bench(self.shape, self.bottom)
        found.many = self.many
        found.names = list(self.names)
        found.opened = list(self.opened)
        found.places = list(self.places)
        found.serials = list(self.serials)
        found.marked = [{serial: kept[serial] for serial in kept} for kept in self.marked]
        return found


def is_name(thing):
    """Tell whether any object can be the name of a program."""
    if not isinstance(thing, str) or not 1 <= len(thing) <= _MOST_LETTERS:
        return False
    return all(["a" <= sign <= "z" for sign in thing])


def check_room(bench):
    """Raise Full if no further program can be open."""
    if len(bench) >= MOST_OPEN:
        raise Full()


def check_fits(shape, program):
    """Raise BadShape or Losing if a program cannot be let in on any bench of the shape."""
    if program.shape != shape:
        raise BadShape()
    check_losing([program])


def check_together(names, programs, start):
    """Raise TooMany or Part if programs with names cannot be open together."""
    found = part(programs, start)
    if found is not None:
        raise Part([names[k] for k in found[3]], [names[k] for k in found[4]])


def _pair_of(names, thing):
    """Return the pair of a walk that a pair with a name stands for; None of any other object."""
    if not isinstance(thing, tuple) or len(thing) != 2 or thing[0] not in names:
        return None
    return names.index(thing[0]), thing[1]
