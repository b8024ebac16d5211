"""Largest choices of two programs: which of their pauses can be kept together."""

from pauseplaces.errors import EndsClash, TooMany
from pauseplaces.starts import clash_table

_MOST_WISHES = 8


def clashes_but_ends(first, second, starts):
    """Return a dict with the clashes as keys, in ascending order; raise EndsClash if the ends clash."""
    table = clash_table(first, second, starts)
    for start in starts:
        if (len(first), len(second)) in table[start]:
            raise EndsClash(start)
    return {places: True for places in sorted([at for start in starts for at in table[start]])}


def largest_pairs(first, second, starts):
    """Return the ascending list of all largest pairs."""
    # A largest pair is the only one that contains its own wishes of the first program and
    # all that go with them, so that the pair table names each.
    table = pair_table(first, second, starts)
    return sorted(set(list(table.values())))


def pair_table(first, second, starts):
    """Return a dict from sets of wishes of the first program to a largest pair for each."""
    clashing = clashes_but_ends(first, second, starts)
    ones = [wish for wish in first.pauses if (wish, len(second)) not in clashing]
    others = [wish for wish in second.pauses if (len(first), wish) not in clashing]
    table = {}
    for kept in _subsets(ones):
        with_kept = [b for b in others if not any([(a, b) in clashing for a in kept])]
        most = [a for a in ones if not any([(a, b) in clashing for b in with_kept])]
        table[kept] = (tuple(most), tuple(with_kept))
    return table


def _subsets(wishes):
    """Return all ascending tuples of some of the wishes."""
    found = [()]
    for wish in wishes:
        found = found + [some + (wish,) for some in found]
    return found


def largest_triples(first, second, starts):
    """Return the ascending list of all largest triples."""
    # A largest triple is the only one that contains its own wishes and has all starts from
    # which they are right, so that the triple table names each.
    table = triple_table(first, second, starts)
    return sorted(set(list(table.values())))


def triple_table(first, second, starts):
    """Return a dict from two sets of wishes to a largest triple that contains them."""
    if len(first.pauses) + len(second.pauses) > _MOST_WISHES:
        raise TooMany()
    right = _right_starts(first, second, starts)
    return {pair: (right[pair],) + _grown(first, second, right, pair) for pair in right}


def _right_starts(first, second, starts):
    """Return a dict from two sets of wishes to the ascending tuple of starts from which they are right."""
    table = clash_table(first, second, starts)
    found = {}
    for one in _subsets(first.pauses):
        for other in _subsets(second.pauses):
            places = (one + (len(first),), other + (len(second),))
            found[(one, other)] = tuple(
                [start for start in sorted(starts) if _is_right(table[start], places)])
    return found


def _is_right(clashing, places):
    """Tell whether no position of two tuples of places clashes."""
    return not any([a in places[0] and b in places[1] for a, b in clashing])


def _grown(first, second, right, pair):
    """Return two sets of wishes with these, to which none can be added without losing a start."""
    one, other = pair
    for wish in first.pauses:
        more = _with(one, wish)
        if right[(more, other)] == right[pair]:
            one = more
    for wish in second.pauses:
        more = _with(other, wish)
        if right[(one, more)] == right[pair]:
            other = more
    return one, other


def _with(wishes, wish):
    return tuple(sorted(set(wishes + (wish,))))
