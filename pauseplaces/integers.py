"""What counts as an integer, and how one is written."""

_MOST_DIGITS = 80


def is_within(thing, low, high):
    """Tell whether any object is an integer from low to high."""
    # Python takes True and False for integers; the document does not.
    return isinstance(thing, int) and not isinstance(thing, bool) and low <= thing <= high


def integer_of(word):
    """Return the integer that a word writes without a sign and leading zeros, or None."""
    # No line has more digits, and Python refuses to read very many.
    if len(word) > _MOST_DIGITS or not word.isascii() or not word.isdigit():
        return None
    if len(word) > 1 and word[0] == "0":
        return None
    return int(word)
