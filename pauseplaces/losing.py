"""Rows that lose: all states that positions have, and whether these are alike."""

from pauseplaces.grids import positions_of
from pauseplaces.programs import after, stretch
from pauseplaces.weavings import check_positions, check_start


class Stretches:
    """What the stretches of a program do; each is executed once from a state."""

    def __init__(self, whole):
        self.whole = whole
        self.ends = {}

    def end(self, index, state):
        """Return the state to which the stretch with an index leads."""
        if (index, state) not in self.ends:
            self.ends[(index, state)] = after(self.whole.shape, stretch(self.whole, index), state)
        return self.ends[(index, state)]


def reached(programs, start):
    """Return a dict from all positions to dicts from their states to the step ahead of each.

    The step is a pair of the program that leads there by its last stretch, and the state
    ahead of that stretch. It is None at the start.
    """
    check_positions(programs)
    check_start(programs, start)
    stretches = [Stretches(program) for program in programs]
    found = {}
    for places in positions_of(programs):
        # No program has moved at the first position.
        found[places] = _steps(programs, stretches, found, places) if len(found) > 0 else {start: None}
    return found


def _steps(programs, stretches, found, places):
    """Return a dict from the states of a position to the step ahead of each."""
    steps = {}
    for k, place in enumerate(places):
        if place > 0:
            index = programs[k].places.index(place) - 1
            for state in found[_place_before(programs, places, k)]:
                steps.setdefault(stretches[k].end(index, state), (k, state))
    return steps


def _place_before(programs, places, k):
    """Return the position ahead of the last stretch of program k."""
    index = programs[k].places.index(places[k]) - 1
    return places[:k] + (programs[k].places[index],) + places[k + 1:]


def beginning_to(programs, found, places, state):
    """Return a beginning that leads to a state of a position, by the steps to each state."""
    entries = []
    step = found[places][state]
    while step is not None:
        k, state = step
        entries.append(k)
        places = _place_before(programs, places, k)
        step = found[places][state]
    return entries[::-1]


def ends_of(programs):
    """Return the last position."""
    return tuple([len(program) for program in programs])


def states_of(programs, start):
    """Return a dict from all positions to the ascending tuples of their states."""
    found = reached(programs, start)
    return {places: tuple(sorted(list(found[places]))) for places in found}


def on_the_way(programs, start):
    """Return two beginnings with one position that lead to different states, or None."""
    found = reached(programs, start)
    for places in found:
        if len(found[places]) > 1:
            return _two_beginnings(programs, found, places)
    return None


def at_the_end(programs, start):
    """Return two weavings that part, or None."""
    found = reached(programs, start)
    end = ends_of(programs)
    return _two_beginnings(programs, found, end) if len(found[end]) > 1 else None


def _two_beginnings(programs, found, places):
    """Return beginnings that lead to two of the states of a position."""
    one, other = list(found[places])[:2]
    return beginning_to(programs, found, places, one), beginning_to(programs, found, places, other)
