"""Starts: from which of several starts positions go, and where they clash."""

from itertools import permutations

from pauseplaces.grids import check_losing, order_with_last, positions_of, prefixes_of, settle
from pauseplaces.weavings import check_positions, check_start


def state_at(programs, start, places):
    """Return the state of a position, or None if it clashes."""
    check_losing(programs)
    check_start(programs, start)
    ends = ends_of_orders(programs, start, places)
    return list(ends)[0] if len(ends) == 1 else None


def orders_at(programs, start, places):
    """Return two orders of a position that lead to different states, or None if it goes."""
    check_losing(programs)
    check_start(programs, start)
    orders = list(ends_of_orders(programs, start, places).values())
    return (orders[0], orders[1]) if len(orders) > 1 else None


def ends_of_orders(programs, start, places):
    """Return a dict from the states to which the orders of a position lead to one such order."""
    prefixes = prefixes_of(programs)
    found = {}
    for order in permutations(range(len(programs))):
        state = start
        for k in order:
            state = prefixes[k].end(places[k], state)
        found.setdefault(state, order)
    return found


def greatest_starts(programs, starts):
    """Return the ascending list of the starts from which the choice is right."""
    left = left_out(programs, starts)
    return sorted([start for start in starts if start not in left])


def left_out(programs, starts):
    """Return a dict from each other start to a position that clashes and two of its orders."""
    check_positions(programs)
    check_losing(programs)
    prefixes = prefixes_of(programs)
    found = {}
    for start in starts:
        clash = clashing_orders(programs, prefixes, start)
        if clash is not None:
            found[start] = clash
    return found


def clashing_orders(programs, prefixes, start):
    """Return a position that clashes and two orders that lead to different states, or None."""
    clash = settle(programs, prefixes, start)[1]
    if clash is None:
        return None
    places, i, j = clash
    return places, order_with_last(len(programs), i), order_with_last(len(programs), j)


def clashes(first, second, starts):
    """Return the ascending list of all positions that clash from one of the starts."""
    table = clash_table(first, second, starts)
    return sorted(set([places for start in starts for places in table[start]]))


def clash_table(first, second, starts):
    """Return a dict from each start to the ascending list of the positions that clash from it."""
    check_losing([first, second])
    one, other = prefixes_of([first, second])
    positions = positions_of([first, second])
    return {start: [(a, b) for a, b in positions if _clash(one, other, start, a, b)] for start in starts}


def _clash(one, other, start, a, b):
    """Tell whether prefixes of two programs lead to different states in different order."""
    return other.end(b, one.end(a, start)) != one.end(a, other.end(b, start))
