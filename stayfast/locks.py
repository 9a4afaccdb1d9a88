"""Locked rigs: forces that tauten them, and motions that loosen them."""

from stayfast.loads import borne, falling, flat, force_of, rows_of, sides_of
from stayfast.rigs import comes_to
from stayfast.weights import in_pairs
from stayfast.wholes import added, answer_from, steps_of, times


def least_taut(rig):
    """Tell the least force in which each rope, prop and wall bears something, as each can."""
    return force_of(rig, [abs(side) for side in sides_of(rig)])


def left_over(rig, spots):
    """Tell the load that would have to be borne besides, so that the least taut force comes to noughts."""
    return in_pairs(times(-1, flat(comes_to(rig, spots, least_taut(rig)))))


def taut(rig, spots):
    """Tell a force that comes to noughts, in which each rope, prop and wall bears something, or None."""
    told = borne(rig, spots, left_over(rig, spots))
    if told is None:
        return None
    bottom, force = told
    return tuple([tuple(added(part, times(bottom, more))) for part, more in zip(force, least_taut(rig))])


def unheld(rig, spots):
    """Tell a motion, not all noughts, that would go too if each member were a bar and each wall a hold, or None."""
    steps = steps_of(rows_of(rig, spots))
    leads = [lead for lead, row in steps]
    width = 2 * len(spots)
    for place in range(width):
        if place not in leads:
            return in_pairs(answer_from(steps, place, width))
    return None


def loosening(rig, spots):
    """Tell a motion that goes and isn't all noughts, or None."""
    motion = unheld(rig, spots)
    if motion is not None:
        return motion
    # Any other motion that goes slackens a rope, a prop or a wall, and so does work on what is left over.
    return falling(rig, spots, left_over(rig, spots))


def is_locked(rig, spots):
    """Tell whether no motion goes but noughts."""
    return loosening(rig, spots) is None
