"""Rows: what they are, what they do, and how they are undone."""

from math import gcd

from pauseplaces.errors import Losing
from pauseplaces.integers import is_within

# What follows the word of an action: the index i, the index j, the number c.
FORMS = {"add": "ic", "mix": "ijc", "scale": "ic", "swap": "ij", "set": "ic", "copy": "ij"}


def is_row(shape, thing):
    """Tell whether any object is a row of the shape."""
    if not isinstance(thing, tuple) or len(thing) != 2:
        return False
    action, conditions = thing
    return _is_action(shape, action) and _are_conditions(shape, conditions, action)


def _is_action(shape, thing):
    if not _has_form(thing) or not _is_index(shape, thing[1]):
        return False
    word, i = thing[0], thing[1]
    form = FORMS[word]
    if "j" in form and (not _is_index(shape, thing[2]) or thing[2] == i):
        return False
    if "c" in form and not is_within(thing[-1], 0, shape[i] - 1):
        return False
    return word != "swap" or shape[i] == shape[thing[2]]


def _has_form(thing):
    if not isinstance(thing, tuple) or len(thing) == 0:
        return False
    word = thing[0]
    # A word that is a list could not be looked up.
    return isinstance(word, str) and word in FORMS and len(thing) == 1 + len(FORMS[word])


def _is_index(shape, thing):
    return is_within(thing, 0, len(shape) - 1)


def _are_conditions(shape, thing, action):
    if not isinstance(thing, tuple):
        return False
    changed = _changed(action)
    last = -1
    for pair in thing:
        if not _is_condition(shape, pair) or pair[0] <= last or pair[0] in changed:
            return False
        last = pair[0]
    return True


def _is_condition(shape, thing):
    if not isinstance(thing, tuple) or len(thing) != 2 or not _is_index(shape, thing[0]):
        return False
    return is_within(thing[1], 0, shape[thing[0]] - 1)


def _changed(action):
    """Return the indexes of the digits that an action changes."""
    if action[0] == "swap":
        return action[1:]
    return action[1:2]


def done(shape, row, state):
    """Return the state after the row."""
    action, conditions = row
    if not all([state[j] == v for j, v in conditions]):
        return state
    i = action[1]
    digits = list(state)
    digits[i] = _new_digit(action, state) % shape[i]
    if action[0] == "swap":
        digits[action[2]] = state[i]
    return tuple(digits)


def _new_digit(action, state):
    """Return what the digit at i becomes, not yet reduced."""
    word, i = action[0], action[1]
    if word == "add":
        return state[i] + action[2]
    if word == "mix":
        return state[i] + action[3] * state[action[2]]
    if word == "scale":
        return state[i] * action[2]
    if word == "set":
        return action[2]
    return state[action[2]]


def loses(shape, row):
    """Tell whether the row leads two different states to one state."""
    action = row[0]
    if action[0] == "scale":
        return gcd(action[2], shape[action[1]]) > 1
    return action[0] in ("set", "copy")


def inverse(shape, row):
    """Return the row that undoes the row; raise Losing(0) if it loses."""
    if loses(shape, row):
        raise Losing(0)
    action, conditions = row
    if action[0] == "swap":
        return action, conditions
    base = shape[action[1]]
    if action[0] == "scale":
        back = _reciprocal(base, action[2])
    else:
        back = (base - action[-1]) % base
    return action[:-1] + (back,), conditions


def _reciprocal(base, c):
    # A base is at most 64, so that trying each number is enough.
    return [back for back in range(1, base) if back * c % base == 1][0]


def joined(shape, row):
    """Return two different states that the row leads to one state, or None if it can be undone."""
    if not loses(shape, row):
        return None
    action, conditions = row
    one = [0] * len(shape)
    for j, v in conditions:
        one[j] = v
    # No condition is on the digit at i, so that the row acts in both states.
    other = list(one)
    other[action[1]] = _like_zero(shape, action)
    return tuple(one), tuple(other)


def _like_zero(shape, action):
    """Return another digit at i of which a losing action makes the same as of 0."""
    if action[0] == "scale":
        base = shape[action[1]]
        return base // gcd(action[2], base)
    return 1
