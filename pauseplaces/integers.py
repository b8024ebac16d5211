"""What counts as an integer, and how one is written."""


def is_within(thing, low, high):
    """Tell whether any object is an integer from low to high."""
    # Python takes True and False for integers; the document does not.
    return isinstance(thing, int) and not isinstance(thing, bool) and low <= thing <= high


def integer_of(word):
    """Return the integer of one or two digits that a word writes, or None."""
    # Wherever a text may have an integer, one of three digits is too great.
    if len(word) > 2 or not word.isascii() or not word.isdigit():
        return None
    if len(word) == 2 and word[0] == "0":
        return None
    return int(word)
