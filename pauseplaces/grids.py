"""Grids: the states of all positions, evidence where a position has none, and walks."""

from pauseplaces.errors import BadWalk, Losing
from pauseplaces.integers import is_within
from pauseplaces.programs import after, first_losing, inverse_rows, log, stretch
from pauseplaces.weavings import check_positions, check_start, MOST_POSITIONS, stretch_counts


class Prefixes:
    """What the prefixes of a program do; each of its logs is worked out once."""

    def __init__(self, whole):
        self.whole = whole
        self.logs = {}

    def end(self, many, state):
        """Return the state to which the first rows, as many as are given, lead."""
        if state not in self.logs:
            self.logs[state] = log(self.whole, state)
        return self.logs[state][many]


def prefixes_of(programs):
    """Return the list of the prefixes of each program."""
    return [Prefixes(program) for program in programs]


def check_losing(programs):
    """Raise Losing with the index of the first program that loses."""
    for at, program in enumerate(programs):
        if first_losing(program) is not None:
            raise Losing(at)


def check_choice(programs, start, most=MOST_POSITIONS):
    """Raise TooMany, Losing or BadState if the programs and the start are not as they must be."""
    check_positions(programs, most)
    check_losing(programs)
    check_start(programs, start)


def positions_of(programs):
    """Return the ascending list of all positions."""
    found = [()]
    for program in programs:
        found = [places + (place,) for places in found for place in program.places]
    return found


def settle(programs, prefixes, start):
    """Return the states of the positions ahead of the first one that clashes, and that clash.

    The clash is None, or (position, i, j): orders of the position in which program i is
    the last one and orders in which program j is lead to different states, and each
    position of which no place is greater and some place is less goes.
    """
    found = {}
    for places in positions_of(programs):
        ends = _ends(prefixes, found, places)
        last = list(ends)
        for j in last[1:]:
            if ends[j] != ends[last[0]]:
                return found, (places, last[0], j)
        # No program has moved at the first position.
        found[places] = ends[last[0]] if len(last) > 0 else start
    return found, None


def _ends(prefixes, found, places):
    """Return a dict from each program with a place other than 0 to the state if it is the last one."""
    ends = {}
    for k, place in enumerate(places):
        if place > 0:
            # Positions ascend, so that this one without program k is known to go.
            ahead = found[places[:k] + (0,) + places[k + 1:]]
            ends[k] = prefixes[k].end(place, ahead)
    return ends


def order_with_last(many, last):
    """Return an order of as many programs that ends with one of them."""
    return tuple([k for k in range(many) if k != last] + [last])


def grid(programs, start):
    """Return a dict from all positions to their states, or None if the choice is not right."""
    check_choice(programs, start)
    found, clash = settle(programs, prefixes_of(programs), start)
    return found if clash is None else None


def part(programs, start):
    """Return a position that clashes, two orders and two weavings that part, or None."""
    check_choice(programs, start)
    return part_from(programs, prefixes_of(programs), start)


def part_from(programs, prefixes, start):
    """Return what part does, of a choice that was checked and its prefixes."""
    clash = settle(programs, prefixes, start)[1]
    if clash is None:
        return None
    places, i, j = clash
    orders = [order_with_last(len(programs), k) for k in (i, j)]
    # Without the last stretch of i, of j or of both the position goes. So it is the two
    # sequences of these stretches that lead to the different states.
    executed = [program.places.index(place) for program, place in zip(programs, places)]
    left = [many - behind for many, behind in zip(stretch_counts(programs), executed)]
    for k in (i, j):
        executed[k] -= 1
    first, last = _entries(executed), _entries(left)
    return places, orders[0], orders[1], first + [j, i] + last, first + [i, j] + last


def _entries(counts):
    """Return the ascending list with each program as many times as the counts say."""
    return [k for k, many in enumerate(counts) for _ in range(many)]


def walked(programs, start, walk):
    """Return the list of the states before and after each pair of a walk."""
    check_choice(programs, start)
    if not isinstance(walk, list):
        raise BadWalk(0)
    executed = [0 for _ in programs]
    found = [start]
    for at, pair in enumerate(walk):
        if not can_go(programs, executed, pair):
            raise BadWalk(at)
        k, way = pair
        found.append(_moved(programs[k], executed[k], way, found[-1]))
        executed[k] += way
    return found


def can_go(programs, executed, thing):
    """Tell whether any object is a pair of a walk that can be done."""
    if not isinstance(thing, tuple) or len(thing) != 2:
        return False
    k, way = thing
    if not is_within(k, 0, len(programs) - 1) or not is_within(way, -1, 1) or way == 0:
        return False
    return 0 <= executed[k] + way < len(programs[k].places)


def _moved(program, executed, way, state):
    """Return the state after the next stretch, or with the last executed one undone."""
    if way == 1:
        rows = stretch(program, executed)
    else:
        rows = inverse_rows(program.shape, stretch(program, executed - 1))
    return after(program.shape, rows, state)
