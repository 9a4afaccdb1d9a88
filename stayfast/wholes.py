"""What a whole number is, and how rows of whole numbers are reckoned with."""

# Where unknowns are raised, a step tells that they, each times its number in the row, put together make 0.
# The unknown at AIM is to be as great as can be while that at SHARE is 1; those that are sided are from 0 on.
AIM = 0
SHARE = 1


def is_whole(thing):
    """Tell of anything whether it is a whole number."""
    # Python counts the truths True and False among the ints.
    return isinstance(thing, int) and not isinstance(thing, bool)


def is_whole_from(thing, low, high):
    """Tell of anything whether it is a whole number from low to high."""
    return is_whole(thing) and low <= thing <= high


def are_wholes(thing, many):
    """Tell of anything whether it is a tuple of so many whole numbers."""
    return isinstance(thing, tuple) and len(thing) == many and all([is_whole(number) for number in thing])


def rises(things):
    """Tell of things that can be compared whether each comes before the next one."""
    return all([thing < later for thing, later in zip(things, things[1:])])


def product(row, other):
    """Tell the products of both rows, number by number, put together."""
    return sum([number * beside for number, beside in zip(row, other)])


def times(count, row):
    """Tell the row so many times."""
    return [count * number for number in row]


def added(row, other):
    """Tell both rows put together, number by number."""
    return [number + beside for number, beside in zip(row, other)]


def common_divisor(row):
    """Tell the greatest common divisor of the row, 0 where all of it is 0."""
    common = 0
    for number in row:
        rest = abs(number)
        while rest != 0:
            common, rest = rest, common % rest
    return common


def lowest(row):
    """Tell the row divided by its greatest common divisor."""
    # A row of noughts has none to divide by.
    common = max(1, common_divisor(row))
    return [number // common for number in row]


def lead_of(row):
    """Tell the first place where the row is not 0, or None."""
    for at, number in enumerate(row):
        if number != 0:
            return at
    return None


def made_step(lead, row):
    """Tell the row as a step: its lead, and the row, or its opposite, that is above 0 there."""
    return (lead, row if row[lead] > 0 else times(-1, row))


def cleared(row, steps):
    """Tell the row, some times from 1 on, less the steps so often that it is 0 at the lead of each.

    Each step is 0 at the leads of those ahead of it. What steps have beyond the row's length is left out.
    """
    for lead, step in steps:
        if row[lead] != 0:
            row = lowest(added(times(step[lead], row), times(-row[lead], step)))
    return row


def answer_from(steps, place, width):
    """Tell a row of that width whose product with each step is 0, but which is not 0 at the place.

    The place is the lead of no step. At places that are neither it nor a lead the row is 0.
    """
    row = [0] * width
    row[place] = 1
    # A step is 0 at the leads ahead, so from the last one on each lead is free for its own step.
    for lead, step in reversed(steps):
        short = product(step, row)
        row = times(step[lead], row)
        row[lead] = -short
        row = lowest(row)
    return row


def steps_of(rows):
    """Tell the steps made by those rows that the ones ahead of them can't clear."""
    steps = []
    for row in rows:
        rest = cleared(row, steps)
        lead = lead_of(rest)
        if lead is not None:
            steps.append(made_step(lead, rest))
    return steps


def turned(steps, at, place):
    """Tell the steps where the one that stands there leads at the place, and all others are 0 at it."""
    ahead = made_step(place, steps[at][1])
    return [ahead if other == at else (lead, cleared(row, [ahead])) for other, (lead, row) in enumerate(steps)]


def unled(steps, place):
    """Tell where the first step stands that has no lead and is not 0 at the place, or None."""
    for at, (lead, row) in enumerate(steps):
        if lead is None and row[place] != 0:
            return at
    return None


def settled(steps, sided):
    """Tell the steps where each one leads, AIM behind all that isn't sided; those that are all 0 are left out."""
    free = [place for place, side in enumerate(sided) if not side and place not in (AIM, SHARE)]
    others = [place for place, side in enumerate(sided) if side]
    for place in free + [AIM] + others:
        at = unled(steps, place)
        if at is not None:
            steps = turned(steps, at, place)
    return [(lead, row) for lead, row in steps if lead is not None]


def entering(steps, sided):
    """Tell the first place of an unknown by which AIM rises, or None."""
    for lead, row in steps:
        if lead == AIM:
            return lead_of([1 if side and number < 0 else 0 for side, number in zip(sided, row)])
    # No step holds AIM, so it rises by itself.
    return AIM


def stops_first(step, other, place):
    """Tell whether the step stops what rises at the place ahead of the other one."""
    lead, row = step
    other_lead, other_row = other
    ahead = row[SHARE] * other_row[place] - other_row[SHARE] * row[place]
    # Of those that stop it together the first unknown is taken, so that the same steps never come round again.
    return ahead > 0 or (ahead == 0 and lead < other_lead)


def leaving(steps, sided, place):
    """Tell where the step stands that stops what rises at the place first, its lead coming down to 0, or None."""
    best = None
    for at, (lead, row) in enumerate(steps):
        if sided[lead] and row[place] > 0 and (best is None or stops_first(steps[at], steps[best], place)):
            best = at
    return best


def raised(steps, sided):
    """Tell the steps by which AIM is as great as can be, and None.

    Where it rises for ever, tell the steps and the place of the unknown by which it does. Of the steps handed in
    some have a lead that is sided, where all others are 0, and are at most 0 at SHARE; those that have no lead
    are 0 at SHARE.
    """
    steps = settled(steps, sided)
    place = entering(steps, sided)
    while place is not None:
        at = leaving(steps, sided, place)
        if at is None:
            return (steps, place)
        steps = turned(steps, at, place)
        place = entering(steps, sided)
    return (steps, None)
