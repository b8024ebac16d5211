"""Shapes, which are tuples of bases, and their states, which are tuples of digits."""

from pauseplaces.integers import is_within

_MOST_BASES = 6
_GREATEST_BASE = 64
_MOST_STATES = 64


def is_shape(thing):
    """Tell whether any object is a shape."""
    if not isinstance(thing, tuple) or not 1 <= len(thing) <= _MOST_BASES:
        return False
    many = 1
    for base in thing:
        if not is_within(base, 2, _GREATEST_BASE):
            return False
        many = many * base
    return many <= _MOST_STATES


def is_state(shape, thing):
    """Tell whether any object is a state of the shape."""
    if not isinstance(thing, tuple) or len(thing) != len(shape):
        return False
    return all([is_within(digit, 0, base - 1) for base, digit in zip(shape, thing)])


def is_digits(thing):
    """Tell whether any object is a tuple of digits, as the states of all shapes are."""
    # Whoever looks up any object among states asks this first: Python takes (True,) for
    # (1,), and it cannot look up a tuple with a list in it.
    return isinstance(thing, tuple) and all([is_within(digit, 0, _GREATEST_BASE - 1) for digit in thing])


def states(shape):
    """Return the ascending list of all states of the shape."""
    found = [()]
    for base in shape:
        found = [state + (digit,) for state in found for digit in range(base)]
    return found
