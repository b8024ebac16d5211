"""What counts as an integer."""


def is_within(thing, low, high):
    """Tell whether any object is an integer from low to high."""
    # Python takes True and False for integers; the document does not.
    return isinstance(thing, int) and not isinstance(thing, bool) and low <= thing <= high
