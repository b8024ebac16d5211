"""Weavings: in which sequence the stretches of several programs are executed."""

from pauseplaces.errors import BadState, BadWeaving, TooMany
from pauseplaces.integers import is_within
from pauseplaces.programs import after, stretch
from pauseplaces.shapes import is_state

MOST_POSITIONS = 400


def check_positions(programs, most=MOST_POSITIONS):
    """Raise TooMany if the programs have more positions than the most."""
    many = 1
    for program in programs:
        many = many * len(program.places)
    if many > most:
        raise TooMany()


def check_start(programs, start):
    """Raise BadState if any object is no state of the programs' shape."""
    # Without programs there is no shape of which the start could fail to be a state.
    if len(programs) > 0 and not is_state(programs[0].shape, start):
        raise BadState()


def stretch_counts(programs):
    """Return the list of the numbers of stretches."""
    return [len(program.places) - 1 for program in programs]


def fault(programs, weaving):
    """Return None if any object is a weaving, otherwise the index at which it fails."""
    check_positions(programs)
    wrong = _first_wrong(programs, weaving, ())
    if wrong is None and len(weaving) < sum(stretch_counts(programs)):
        return len(weaving)
    return wrong


def _first_wrong(programs, thing, rounds):
    """Return the index of the first entry without a stretch left, or None; 0 if it is no list.

    Programs with their index in rounds always have a stretch left.
    """
    if not isinstance(thing, list):
        return 0
    left = stretch_counts(programs)
    for at, entry in enumerate(thing):
        if not is_within(entry, 0, len(left) - 1):
            return at
        if left[entry] == 0 and entry not in rounds:
            return at
        left[entry] -= 1
    return None


def position(programs, beginning):
    """Return the position of a beginning."""
    check_positions(programs)
    check_beginning(programs, beginning)
    return tuple([program.places[beginning.count(k)] for k, program in enumerate(programs)])


def check_beginning(programs, thing, rounds=()):
    """Raise BadWeaving if any object is no beginning, some programs running in rounds."""
    wrong = _first_wrong(programs, thing, rounds)
    if wrong is not None:
        raise BadWeaving(wrong)


def woven(programs, start, beginning):
    """Return the list of the states before and after each entry."""
    check_positions(programs)
    check_start(programs, start)
    check_beginning(programs, beginning)
    return states_along(programs, start, beginning)


def states_along(programs, start, beginning):
    """Return the list of the states before and after each entry, of a beginning in rounds too."""
    counts = stretch_counts(programs)
    executed = [0 for _ in programs]
    found = [start]
    for entry in beginning:
        rows = stretch(programs[entry], executed[entry])
        found.append(after(programs[entry].shape, rows, found[-1]))
        # Behind its last stretch a program in rounds goes on with its first one.
        executed[entry] = (executed[entry] + 1) % counts[entry]
    return found


def chain(programs, one, other):
    """Return a shortest list of weavings from the one to the other, by exchanges of neighbours."""
    for thing in (one, other):
        wrong = fault(programs, thing)
        if wrong is not None:
            raise BadWeaving(wrong)
    weaving = list(one)
    ranks = _ranks(one, other)
    found = [list(one)]
    # Each exchange is of two entries that stand in different order in the other weaving.
    for end in range(1, len(one)):
        at = end
        while at > 0 and ranks[at - 1] > ranks[at]:
            ranks[at - 1], ranks[at] = ranks[at], ranks[at - 1]
            weaving[at - 1], weaving[at] = weaving[at], weaving[at - 1]
            found.append(list(weaving))
            at -= 1
    return found


def _ranks(one, other):
    """Return the list of the indexes at which the other weaving has the entries of the one."""
    ranks = []
    for at, entry in enumerate(one):
        same = [k for k, other_entry in enumerate(other) if other_entry == entry]
        ranks.append(same[one[:at].count(entry)])
    return ranks


def weavings(programs):
    """Yield all weavings, in ascending order."""
    check_positions(programs)
    weaving = [k for k, many in enumerate(stretch_counts(programs)) for _ in range(many)]
    while weaving is not None:
        yield list(weaving)
        weaving = _next_weaving(weaving)


def _next_weaving(weaving):
    """Return the least list of the same entries that is greater, or None."""
    at = len(weaving) - 2
    while at >= 0 and weaving[at] >= weaving[at + 1]:
        at -= 1
    if at < 0:
        return None
    greater = len(weaving) - 1
    while weaving[greater] <= weaving[at]:
        greater -= 1
    found = list(weaving)
    found[at], found[greater] = found[greater], found[at]
    # What stands behind descends, and has to be as small as possible.
    return found[:at + 1] + found[:at:-1]
