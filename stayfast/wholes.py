"""What a whole number is."""


def is_whole(thing):
    """Tell of anything whether it is a whole number."""
    # Python counts the truths True and False among the ints.
    return isinstance(thing, int) and not isinstance(thing, bool)


def is_whole_from(thing, low, high):
    """Tell of anything whether it is a whole number from low to high."""
    return is_whole(thing) and low <= thing <= high
