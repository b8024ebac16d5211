"""All errors of the package."""


class PauseError(ValueError):
    """The base class of all errors of the package."""


class BadShape(PauseError):
    """Something is no shape, or not the shape that is needed."""

    # Without an __init__ of its own it would take, and drop, whatever is passed;
    # the same holds for each error without fields below.
    def __init__(self):
        pass


class BadState(PauseError):
    """Something is no state of the shape."""

    def __init__(self):
        pass


class BadRow(PauseError):
    """The row at an index is no row of the shape."""

    def __init__(self, index):
        self.index = index


class BadPauses(PauseError):
    """Something cannot be the pauses of the program."""

    def __init__(self):
        pass


class BadScript(PauseError):
    """A line of a script is wrong."""

    def __init__(self, line):
        self.line = line


class Long(PauseError):
    """A program has too many rows or too many pauses."""

    def __init__(self):
        pass


class Losing(PauseError):
    """The row or the program at an index loses."""

    def __init__(self, index):
        self.index = index


class TooMany(PauseError):
    """There are too many positions or too many wishes."""

    def __init__(self):
        pass


class BadWeaving(PauseError):
    """Something is no weaving because of its entry at an index."""

    def __init__(self, index):
        self.index = index


class BadWalk(PauseError):
    """The pair at an index of a walk cannot be done."""

    def __init__(self, index):
        self.index = index


class EndsClash(PauseError):
    """The ends of two programs clash from a start."""

    def __init__(self, start):
        self.start = start


class BadPrices(PauseError):
    """Something cannot be the prices of wishes."""

    def __init__(self):
        pass


class BadName(PauseError):
    """Something cannot be the name of a program on a bench."""

    def __init__(self):
        pass


class NameTaken(PauseError):
    """An open program has the name already."""

    def __init__(self, name):
        self.name = name


class Full(PauseError):
    """A bench has as many open programs as it can have."""

    def __init__(self):
        pass


class Spent(PauseError):
    """A bench has let in as many programs as it can."""

    def __init__(self):
        pass


class NoName(PauseError):
    """No open program has the name."""

    def __init__(self, name):
        self.name = name


class AtEnd(PauseError):
    """The program of a name has too few stretches ahead."""

    def __init__(self, name):
        self.name = name


class AtStart(PauseError):
    """The program of a name has too few stretches behind it."""

    def __init__(self, name):
        self.name = name


class NotDone(PauseError):
    """The program of a name is not at its end."""

    def __init__(self, name):
        self.name = name


class Part(PauseError):
    """Two weavings, given as lists of names, part."""

    def __init__(self, one, other):
        self.one = one
        self.other = other


class Clash(PauseError):
    """A position with the place clashes."""

    def __init__(self, place):
        self.place = place


class Standing(PauseError):
    """The program stands at the place."""

    def __init__(self, place):
        self.place = place


class NoPause(PauseError):
    """The place is no pause of the program."""

    def __init__(self, place):
        self.place = place


class HasPause(PauseError):
    """The place is a pause of the program already."""

    def __init__(self, place):
        self.place = place


class BadMove(PauseError):
    """The move at an index cannot be done."""

    def __init__(self, index):
        self.index = index


class NoMark(PauseError):
    """No mark has the number."""

    def __init__(self, number):
        self.number = number


class Stale(PauseError):
    """The mark of a number cannot be gone back to any more."""

    def __init__(self, number):
        self.number = number


class BadPage(PauseError):
    """A line of a page is wrong."""

    def __init__(self, line):
        self.line = line
