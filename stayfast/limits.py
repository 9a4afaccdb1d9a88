"""Limits: how often a load is borne at most, by weights within the limits, and by a motion in which all gives way."""

from stayfast.loads import flat, marked, shown_motion, stay_row, work
from stayfast.motions import grows
from stayfast.rigs import comes_to, goes_by_stays, is_force
from stayfast.weights import pair_row
from stayfast.wholes import AIM, SHARE, answer_from, are_wholes, lowest, raised, times

# The signs that the weight of each kind can have; what bears on both sides is reckoned with twice.
WAYS = {"bar": (1, -1), "rope": (1,), "prop": (-1,)}


def ways_of(rig):
    """Tell for each bar and each sign that its weight can have (at, sign), at its place."""
    return [(at, sign) for at, kind in enumerate(rig[1]) for sign in WAYS[kind]]


def columns_of(rig, spots, load):
    """Tell what each unknown comes to: AIM, SHARE, the ways, the holds, the walls, then what each limit leaves."""
    frame, kinds, holds, walls = rig
    aim = times(-1, flat(load))
    bars = [pair_row(spots, one, other) for one, other in frame[1]]
    ways = [times(sign, bars[at]) for at, sign in ways_of(rig)]
    stays = [stay_row(spots, stay) for stay in holds + walls]
    nought = [0] * len(aim)
    return [aim, nought] + ways + stays + [nought] * len(bars)


def limit_step(rig, at, limit):
    """Tell the step by which both ways of the bar, and what its limit leaves, are as much as the limit."""
    ways = [1 if bar == at else 0 for bar, sign in ways_of(rig)]
    stays = [0] * (len(rig[2]) + len(rig[3]))
    left = [1 if bar == at else 0 for bar in range(len(rig[1]))]
    marks = [0] * (2 * rig[0][0])
    lead = SHARE + 1 + len(ways) + len(stays) + at
    return (lead, [0, -limit] + ways + stays + left + marks)


def raising(rig, spots, load, limits):
    """Tell the steps, and the place, of raising how often the load is borne within the limits."""
    steps = marked(columns_of(rig, spots, load))
    kept = [limit_step(rig, at, limit) for at, limit in enumerate(limits)]
    sided = [True] * len(ways_of(rig)) + [False] * len(rig[2]) + [True] * (len(rig[3]) + len(limits))
    return raised(steps + kept, [False, False] + sided)


def greatest(rig, spots, load, limits):
    """Tell the unknowns by which the load is borne most often, or None where there is no greatest."""
    steps, place = raising(rig, spots, load, limits)
    if place is not None:
        return None
    # Behind the unknowns a step has two marks for each joint.
    return answer_from(steps, SHARE, len(steps[0][1]) - 2 * len(spots))


def force_by(rig, row):
    """Tell the force of unknowns: those of the ways, the holds and the walls."""
    ways = ways_of(rig)
    weights = [0] * len(rig[1])
    for (at, sign), number in zip(ways, row):
        weights[at] += sign * number
    holds = len(ways) + len(rig[2])
    walls = holds + len(rig[3])
    return (tuple(weights), tuple(row[len(ways):holds]), tuple(row[holds:walls]))


def often(rig, spots, load, limits):
    """Tell the greatest fraction (top, bottom) by which the load is borne within the limits, or None."""
    row = greatest(rig, spots, load, limits)
    return None if row is None else tuple(lowest([row[AIM], row[SHARE]]))


def within(rig, spots, load, limits):
    """Tell (times, top, bottom, force), the force bearing the load most often within the limits, or None."""
    row = greatest(rig, spots, load, limits)
    if row is None:
        return None
    top, bottom = lowest([row[AIM], row[SHARE]])
    return (row[SHARE] // bottom, top, bottom, force_by(rig, row[SHARE + 1:]))


def giving(rig, spots, load, limits):
    """Tell a motion that shows how often the load is borne at most, or None."""
    steps, place = raising(rig, spots, load, limits)
    return shown_motion(steps, len(spots)) if place is None else None


def keeps(limits, bottom, weights):
    """Tell whether no weight, its sign left out, is more than bottom times its limit."""
    return all([abs(weight) <= bottom * limit for limit, weight in zip(limits, weights)])


def is_within(rig, spots, load, limits, thing):
    """Tell of anything whether it is (times, top, bottom, force), bearing the load most often within the limits."""
    if not isinstance(thing, tuple) or len(thing) != 4:
        return False
    count, top, bottom, force = thing
    if not are_wholes((count, top, bottom), 3) or count < 1 or not is_force(rig, force):
        return False
    if not keeps(limits, count * bottom, force[0]):
        return False
    if flat(comes_to(rig, spots, force)) != times(count * top, flat(load)):
        return False
    # To be the greatest takes far longer to tell, so it is asked last.
    return (top, bottom) == often(rig, spots, load, limits)


def gives(kind, growth):
    """Tell how much a bar of the kind gives where its ends grow apart by so much."""
    if kind == "rope":
        return max(0, growth)
    if kind == "prop":
        return max(0, -growth)
    return abs(growth)


def given(rig, spots, limits, motion):
    """Tell the sum over bars of limit times how much it gives by the motion."""
    growths = [grows(spots, motion, one, other) for one, other in rig[0][1]]
    return sum([limit * gives(kind, growth) for limit, kind, growth in zip(limits, rig[1], growths)])


def shows(rig, spots, load, limits, thing):
    """Tell of anything the fraction that it shows as a motion of holds and walls, or None."""
    if not goes_by_stays(rig, thing):
        return None
    much = work(load, thing)
    return tuple(lowest([given(rig, spots, limits, thing), much])) if much > 0 else None
