"""Rounds: programs that go on with their first stretch behind their last one."""

from pauseplaces.grids import check_choice, part_from, prefixes_of
from pauseplaces.shapes import is_digits
from pauseplaces.weavings import check_beginning, states_along, stretch_counts

_MOST_POSITIONS = 100


def round_states(programs, start, rounds):
    """Return the ascending list of the round states."""
    check_choice(programs, start, _MOST_POSITIONS)
    return sorted(list(_whole_ways(prefixes_of(programs), start, rounds)))


def _whole_ways(prefixes, start, rounds):
    """Return a dict from each round state to a list of indexes of whole programs that leads there."""
    found = {start: []}
    queue = [start]
    at = 0
    while at < len(queue):
        ahead = queue[at]
        for k in rounds:
            state = prefixes[k].end(len(prefixes[k].whole), ahead)
            if state not in found:
                found[state] = found[ahead] + [k]
                queue.append(state)
        at += 1
    return found


def whole_way(programs, start, rounds, state):
    """Return a list of indexes of whole programs that leads to a state, or None."""
    check_choice(programs, start, _MOST_POSITIONS)
    ways = _whole_ways(prefixes_of(programs), start, rounds)
    return ways.get(state) if is_digits(state) else None


def rounds_part(programs, start, rounds):
    """Return two beginnings in rounds that differ in one exchange and part, or None."""
    check_choice(programs, start, _MOST_POSITIONS)
    prefixes = prefixes_of(programs)
    ways = _whole_ways(prefixes, start, rounds)
    counts = stretch_counts(programs)
    for state in ways:
        found = part_from(programs, prefixes, state)
        if found is not None:
            way = [k for k in ways[state] for _ in range(counts[k])]
            return way + found[3], way + found[4]
    return None


def round_woven(programs, start, rounds, beginning):
    """Return the list of the states before and after each entry of a beginning in rounds."""
    check_choice(programs, start, _MOST_POSITIONS)
    check_beginning(programs, beginning, rounds)
    return states_along(programs, start, beginning)
