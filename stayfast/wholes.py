"""What a whole number is, and how rows of whole numbers are reckoned with."""


def is_whole(thing):
    """Tell of anything whether it is a whole number."""
    # Python counts the truths True and False among the ints.
    return isinstance(thing, int) and not isinstance(thing, bool)


def is_whole_from(thing, low, high):
    """Tell of anything whether it is a whole number from low to high."""
    return is_whole(thing) and low <= thing <= high


def are_wholes(thing, many):
    """Tell of anything whether it is a tuple of so many whole numbers."""
    return isinstance(thing, tuple) and len(thing) == many and all([is_whole(number) for number in thing])


def rises(things):
    """Tell of things that can be compared whether each comes before the next one."""
    return all([thing < later for thing, later in zip(things, things[1:])])


def product(row, other):
    """Tell the products of both rows, number by number, put together."""
    return sum([number * beside for number, beside in zip(row, other)])


def times(count, row):
    """Tell the row so many times."""
    return [count * number for number in row]


def added(row, other):
    """Tell both rows put together, number by number."""
    return [number + beside for number, beside in zip(row, other)]


def common_divisor(row):
    """Tell the greatest common divisor of the row, 0 where all of it is 0."""
    common = 0
    for number in row:
        rest = abs(number)
        while rest != 0:
            common, rest = rest, common % rest
    return common


def lowest(row):
    """Tell the row divided by its greatest common divisor."""
    # A row of noughts has none to divide by.
    common = max(1, common_divisor(row))
    return [number // common for number in row]


def lead_of(row):
    """Tell the first place where the row is not 0, or None."""
    for at, number in enumerate(row):
        if number != 0:
            return at
    return None


def made_step(lead, row):
    """Tell the row as a step: its lead, and the row, or its opposite, that is above 0 there."""
    return (lead, row if row[lead] > 0 else times(-1, row))


def cleared(row, steps):
    """Tell the row, some times from 1 on, less the steps so often that it is 0 at the lead of each.

    Each step is 0 at the leads of those ahead of it. What steps have beyond the row's length is left out.
    """
    for lead, step in steps:
        if row[lead] != 0:
            row = lowest(added(times(step[lead], row), times(-row[lead], step)))
    return row


def answer_from(steps, place, width):
    """Tell a row of that width whose product with each step is 0, but which is not 0 at the place.

    The place is the lead of no step. At places that are neither it nor a lead the row is 0.
    """
    row = [0] * width
    row[place] = 1
    # A step is 0 at the leads ahead, so from the last one on each lead is free for its own step.
    for lead, step in reversed(steps):
        short = product(step, row)
        row = times(step[lead], row)
        row[lead] = -short
        row = lowest(row)
    return row
