"""Sequences: whether weavings end like some order of the whole programs, and ways to states."""

from pauseplaces.losing import beginning_to, ends_of, reached
from pauseplaces.shapes import is_digits
from pauseplaces.starts import ends_of_orders
from pauseplaces.weavings import check_positions, check_start


def sequence_ends(programs, start):
    """Return a dict from the states in which orders of the whole programs end to one such order."""
    check_positions(programs)
    check_start(programs, start)
    return ends_of_orders(programs, start, ends_of(programs))


def unlike(programs, start):
    """Return a weaving that ends in a state in which no order of the whole programs does, or None."""
    found = reached(programs, start)
    end = ends_of(programs)
    like = sequence_ends(programs, start)
    for state in found[end]:
        if state not in like:
            return beginning_to(programs, found, end, state)
    return None


def way_to(programs, start, places, state):
    """Return a beginning with a position that leads to a state, or None if there is none."""
    found = reached(programs, start)
    if not is_digits(state) or state not in found.get(places, {}):
        return None
    return beginning_to(programs, found, places, state)
