"""Rigs: frames with kinds of bars, holds and walls; motions that go in them, and forces."""

from stayfast.frames import is_frame
from stayfast.motions import grows, is_motion
from stayfast.weights import are_weights, in_pairs, weights_row
from stayfast.wholes import are_wholes, product, rises

KINDS = ("bar", "rope", "prop")
STAYS = 6
STEEPEST = 99


def are_kinds(frame, thing):
    """Tell of anything whether it is a kind for each bar of the frame."""
    if not isinstance(thing, tuple) or len(thing) != len(frame[1]):
        return False
    return all([kind in KINDS for kind in thing])


def is_way(thing):
    """Tell of anything whether it is the way (a, b) of a hold or a wall."""
    # Of two numbers that are not both 0, the greater one, its sign left out, is from 1 on.
    return are_wholes(thing, 2) and 1 <= max([abs(number) for number in thing]) <= STEEPEST


def is_stay(frame, thing):
    """Tell of anything whether it can be a hold or a wall of the frame."""
    return are_wholes(thing, 3) and 0 <= thing[0] < frame[0] and is_way(thing[1:])


def are_stays(frame, thing):
    """Tell of anything whether it can be the holds or the walls of the frame."""
    if not isinstance(thing, tuple) or len(thing) > STAYS:
        return False
    return all([is_stay(frame, stay) for stay in thing]) and rises(thing)


def is_rig(thing):
    """Tell of anything whether it is a rig."""
    if not isinstance(thing, tuple) or len(thing) != 4:
        return False
    frame, kinds, holds, walls = thing
    if not is_frame(frame) or not are_kinds(frame, kinds):
        return False
    return are_stays(frame, holds) and are_stays(frame, walls)


def lets(kind, growth):
    """Tell whether a bar of the kind lets its ends grow apart by so much."""
    if kind == "rope":
        return growth <= 0
    if kind == "prop":
        return growth >= 0
    return growth == 0


def along(motion, stay):
    """Tell how far the motion goes along the way of a hold or a wall."""
    joint, a, b = stay
    return product(motion[joint], (a, b))


def goes_by_stays(rig, thing):
    """Tell of anything whether it is a motion that holds and walls let go, whatever it does to bars."""
    frame, kinds, holds, walls = rig
    if not is_motion(frame, thing) or not all([along(thing, hold) == 0 for hold in holds]):
        return False
    return all([along(thing, wall) <= 0 for wall in walls])


def goes(rig, spots, thing):
    """Tell of anything whether it is a motion that goes in the rig."""
    if not goes_by_stays(rig, thing):
        return False
    bars = rig[0][1]
    return all([lets(kind, grows(spots, thing, one, other)) for kind, (one, other) in zip(rig[1], bars)])


def can_bear(kind, weight):
    """Tell whether a bar of the kind can have the weight."""
    if kind == "rope":
        return weight >= 0
    if kind == "prop":
        return weight <= 0
    return True


def is_force(rig, thing):
    """Tell of anything whether it is a force of the rig."""
    frame, kinds, holds, walls = rig
    if not isinstance(thing, tuple) or len(thing) != 3:
        return False
    weights, pushes, shoves = thing
    if not are_weights(frame, weights) or not are_wholes(pushes, len(holds)) or not are_wholes(shoves, len(walls)):
        return False
    if not all([can_bear(kind, weight) for kind, weight in zip(kinds, weights)]):
        return False
    return all([shove >= 0 for shove in shoves])


def comes_to(rig, spots, force):
    """Tell what the force comes to at each joint."""
    frame, kinds, holds, walls = rig
    weights, pushes, shoves = force
    row = weights_row(frame, spots, weights)
    for much, (joint, a, b) in zip(pushes + shoves, holds + walls):
        row[2 * joint] += much * a
        row[2 * joint + 1] += much * b
    return in_pairs(row)
