"""Loads: whether they stand, what bears them, and motions by which they fall."""

from stayfast.frames import is_pair
from stayfast.rigs import comes_to, is_force
from stayfast.weights import in_pairs, pair_row
from stayfast.wholes import AIM, SHARE, answer_from, is_whole, lowest, product, raised, times

# On which side of 0 a bar's weight lies; 0 where it may lie on both.
SIDES = {"bar": 0, "rope": 1, "prop": -1}


def flat(pairs):
    """Tell the pairs as a row of two numbers for each joint."""
    return [number for pair in pairs for number in pair]


def work(load, motion):
    """Tell the load's work by the motion."""
    return product(flat(load), flat(motion))


def stay_row(spots, stay):
    """Tell what a hold or a wall comes to, pushed by 1: a row of two numbers for each joint."""
    joint, a, b = stay
    row = [0] * (2 * len(spots))
    row[2 * joint] = a
    row[2 * joint + 1] = b
    return row


def sides_of(rig):
    """Tell for each bar, hold and wall, in this order, on which side of 0 what it bears lies."""
    kinds, holds, walls = rig[1:]
    return [SIDES[kind] for kind in kinds] + [0] * len(holds) + [1] * len(walls)


def rows_of(rig, spots):
    """Tell for each bar, hold and wall, in this order, what it comes to by 1, or by -1 if it bears but below 0."""
    frame, kinds, holds, walls = rig
    rows = [pair_row(spots, one, other) for one, other in frame[1]] + [stay_row(spots, stay) for stay in holds + walls]
    return [times(-1, row) if side < 0 else row for side, row in zip(sides_of(rig), rows)]


def marked(columns):
    """Tell steps without a lead: a row for each number of the columns, behind it the mark which one it is."""
    high = len(columns[0])
    marks = [[1 if other == at else 0 for other in range(high)] for at in range(high)]
    return [(None, [column[at] for column in columns] + marks[at]) for at in range(high)]


def bearing(rig, spots, load):
    """Tell the steps, and the place, of raising how many times the load is borne."""
    aim = times(-1, flat(load))
    columns = [aim, [0] * len(aim)] + rows_of(rig, spots)
    return raised(marked(columns), [False, False] + [side != 0 for side in sides_of(rig)])


def force_of(rig, row):
    """Tell the force by which each bar, hold and wall bears as often as the row has it."""
    much = [-number if side < 0 else number for side, number in zip(sides_of(rig), row)]
    bars = len(rig[1])
    stays = bars + len(rig[2])
    return (tuple(much[:bars]), tuple(much[bars:stays]), tuple(much[stays:]))


def shown_motion(steps, many):
    """Tell the motion of so many joints that the marks of the step with the lead AIM show."""
    last = [row for lead, row in steps if lead == AIM][0]
    # The marks do work of 0 or more on what each member comes to, and less on the load; their opposite goes.
    return in_pairs(lowest(times(-1, last[len(last) - 2 * many:])))


def stands(rig, spots, load):
    """Tell whether the load stands."""
    return bearing(rig, spots, load)[1] is not None


def borne(rig, spots, load):
    """Tell (bottom, force), the force coming to bottom times the load, or None."""
    steps, place = bearing(rig, spots, load)
    if place is None:
        return None
    row = answer_from(steps, place, SHARE + 1 + len(sides_of(rig)))
    return (row[AIM], force_of(rig, row[SHARE + 1:]))


def falling(rig, spots, load):
    """Tell a motion that goes, by which the load's work is above 0, or None."""
    steps, place = bearing(rig, spots, load)
    return shown_motion(steps, len(spots)) if place is None else None


def bears(rig, spots, load, thing):
    """Tell of anything whether it is (bottom, force), the force coming to bottom times the load."""
    if not is_pair(thing):
        return False
    bottom, force = thing
    if not is_whole(bottom) or bottom < 1 or not is_force(rig, force):
        return False
    return flat(comes_to(rig, spots, force)) == times(bottom, flat(load))
