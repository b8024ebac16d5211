"""What several tests need: objects of every kind, and all rows of a shape."""

from itertools import combinations, product

HUGE = 10 ** 30 - 1

# Objects that are no shape, no state, no row and no part of one.
NO_TUPLES = [
    0, 1, 2, -1, HUGE, -HUGE, True, False, None, "", "2", "add", "add 0 1",
    [], [2], [2, 2], [0, 0], [[]], [(2, 2)],
    [("add", 0, 1), ()], ["add", 0, 1],
]


def nested(thing, depth, wrap):
    """Return the thing inside as many tuples or lists."""
    for _ in range(depth):
        thing = wrap([thing])
    return thing


def actions(shape):
    """Return all actions of the shape, spelled out from point 5."""
    found = []
    for i, base in enumerate(shape):
        found += [(word, i, c) for word in ("add", "scale", "set") for c in range(base)]
        for j in range(len(shape)):
            if j != i:
                found += [("mix", i, j, c) for c in range(base)]
                found.append(("copy", i, j))
                if base == shape[j]:
                    found.append(("swap", i, j))
    return found


def changed(action):
    return action[1:] if action[0] == "swap" else action[1:2]


def all_conditions(shape, free):
    """Return all conditions on some of the digits that are free."""
    found = []
    for many in range(len(free) + 1):
        for digits in combinations(free, many):
            for values in product(*[range(shape[j]) for j in digits]):
                found.append(tuple(zip(digits, values)))
    return found


def all_rows(shape):
    """Return all rows of the shape."""
    found = []
    for action in actions(shape):
        free = [j for j in range(len(shape)) if j not in changed(action)]
        found += [(action, conditions) for conditions in all_conditions(shape, free)]
    return found


# Objects of every kind that "any object" may be.
ANYTHING = NO_TUPLES + [
    (), (0,), (1,), (0, 0), (True,), (None,), ("a",), ((0,),), ([0],), (0, "0"), (HUGE, 0), [True],
    [None], ["0"], [(0,)], [-1], [HUGE], nested(0, 20, tuple), nested(1, 20, list),
]
