"""Plans: what stands in a yard at one time, what each deed makes of it, and what is told of it.

A plan is a tuple (joints, members, holds, walls) of dicts: the spot and the load of each name, the kind and the
limit of each pair of names, the lesser one first, and True for each (name, a, b). A plan is never changed: each deed
tells a new one, so that a yard can go back to those it had.
"""

from stayfast.errors import Full, Held, NoBar, NoJoint, NoKind, NoLimit, NoLoad, NoName, NoSpot, NotHeld, NoWay, Twice
from stayfast.frames import JOINTS, bar_between, is_spot
from stayfast.limits import often
from stayfast.loads import falling, stands
from stayfast.locks import is_locked, loosening
from stayfast.rigs import KINDS, STAYS, is_way
from stayfast.wholes import is_whole_from

LETTERS = "abcdefghijklmnopqrstuvwxyz"
LONGEST = 8
GREATEST = 999


def bare_plan():
    """Tell a plan without joints."""
    return ({}, {}, {}, {})


def is_name(thing):
    """Tell of anything whether it is a name of a joint."""
    if not isinstance(thing, str) or not 1 <= len(thing) <= LONGEST:
        return False
    return all([sign in LETTERS for sign in thing])


def with_one(rows, key, value):
    """Tell the rows with one more, or another one, at the key."""
    more = {other: rows[other] for other in rows}
    more[key] = value
    return more


def ask_joint(plan, name):
    """Refuse what is no name of a joint that is there."""
    if not isinstance(name, str) or name not in plan[0]:
        raise NoJoint(name)


def ask_spot(x, y):
    """Refuse what is no spot."""
    if not is_spot((x, y)):
        raise NoSpot("a spot is two whole numbers from -999 to 999")


def put(plan, name, x, y):
    """Tell the plan with a joint more."""
    joints, members, holds, walls = plan
    if not is_name(name):
        raise NoName("a name is a text of 1 to 8 small letters")
    ask_spot(x, y)
    if name in joints:
        raise Twice(name)
    if len(joints) >= JOINTS:
        raise Full(JOINTS)
    return (with_one(joints, name, ((x, y), (0, 0))), members, holds, walls)


def shift(plan, name, x, y):
    """Tell the plan with the joint at another spot."""
    joints, members, holds, walls = plan
    ask_joint(plan, name)
    ask_spot(x, y)
    return (with_one(joints, name, ((x, y), joints[name][1])), members, holds, walls)


def take(plan, name):
    """Tell the plan without the joint, and all of it."""
    joints, members, holds, walls = plan
    ask_joint(plan, name)
    return (
        {other: joints[other] for other in joints if other != name},
        {pair: members[pair] for pair in members if name not in pair},
        stays_without(holds, name),
        stays_without(walls, name),
    )


def weigh(plan, name, x, y):
    """Tell the plan with another load of the joint."""
    joints, members, holds, walls = plan
    ask_joint(plan, name)
    if not is_whole_from(x, -GREATEST, GREATEST) or not is_whole_from(y, -GREATEST, GREATEST):
        raise NoLoad("a load is two whole numbers from -999 to 999")
    return (with_one(joints, name, (joints[name][0], (x, y))), members, holds, walls)


def tie(plan, one, other, kind, limit):
    """Tell the plan with a member more."""
    joints, members, holds, walls = plan
    ask_joint(plan, one)
    ask_joint(plan, other)
    if kind not in KINDS:
        raise NoKind("a kind is bar, rope or prop")
    if not is_whole_from(limit, 0, GREATEST):
        raise NoLimit("a limit is a whole number from 0 to 999")
    pair = bar_between(one, other)
    if one == other or pair in members:
        raise NoBar(one, other)
    return (joints, with_one(members, pair, (kind, limit)), holds, walls)


def untie(plan, one, other):
    """Tell the plan without the member."""
    joints, members, holds, walls = plan
    ask_joint(plan, one)
    ask_joint(plan, other)
    gone = bar_between(one, other)
    if gone not in members:
        raise NoBar(one, other)
    return (joints, {pair: members[pair] for pair in members if pair != gone}, holds, walls)


def with_stay(plan, stays, name, a, b):
    """Tell the holds, or the walls, with one more."""
    ask_joint(plan, name)
    if not is_way((a, b)):
        raise NoWay("a way is two whole numbers from -99 to 99, not both 0")
    if (name, a, b) in stays:
        raise Held(name)
    if len(stays) >= STAYS:
        raise Full(STAYS)
    return with_one(stays, (name, a, b), True)


def hold(plan, name, a, b):
    """Tell the plan with a hold more."""
    joints, members, holds, walls = plan
    return (joints, members, with_stay(plan, holds, name, a, b), walls)


def wall(plan, name, a, b):
    """Tell the plan with a wall more."""
    joints, members, holds, walls = plan
    return (joints, members, holds, with_stay(plan, walls, name, a, b))


def stays_without(stays, name):
    """Tell the holds, or the walls, without those of the joint."""
    return {stay: True for stay in stays if stay[0] != name}


def free(plan, name):
    """Tell the plan without the holds and walls of the joint."""
    joints, members, holds, walls = plan
    ask_joint(plan, name)
    fewer = (stays_without(holds, name), stays_without(walls, name))
    if fewer == (holds, walls):
        raise NotHeld(name)
    return (joints, members, *fewer)


DEEDS = {
    "put": put, "shift": shift, "take": take, "weigh": weigh, "tie": tie, "untie": untie, "hold": hold, "wall": wall,
    "free": free,
}
# How many things each deed is handed, and how many of them, the first ones, are texts in any case.
HANDED = {
    "put": (3, 0), "shift": (3, 1), "take": (1, 1), "weigh": (3, 1), "tie": (4, 2), "untie": (2, 2), "hold": (3, 1),
    "wall": (3, 1), "free": (1, 1),
}


def is_deed(thing):
    """Tell of anything whether it is a tuple of a deed's word and what the deed is handed."""
    if not isinstance(thing, tuple) or len(thing) == 0 or not isinstance(thing[0], str) or thing[0] not in HANDED:
        return False
    many, texts = HANDED[thing[0]]
    return len(thing) == 1 + many and all([isinstance(text, str) for text in thing[1:1 + texts]])


def are_deeds(thing):
    """Tell of anything whether it is a list of deeds."""
    return isinstance(thing, list) and all([is_deed(deed) for deed in thing])


def after(plan, word, handed):
    """Tell the plan after the deed of that word."""
    deed = DEEDS[word]
    return deed(plan, *handed)


def names_of(plan):
    """Tell the names of the joints, rising."""
    return sorted(plan[0])


def ask_joints(plan):
    """Refuse a plan without joints."""
    if len(plan[0]) == 0:
        raise NoJoint("")


def numbered(plan, stays):
    """Tell the holds, or the walls, of the rig."""
    names = names_of(plan)
    return tuple(sorted([(names.index(name), a, b) for name, a, b in stays]))


def rig_of(plan):
    """Tell the rig, joints numbered by the names' order."""
    ask_joints(plan)
    joints, members, holds, walls = plan
    names = names_of(plan)
    # Names that rise are numbered rising, so members stand in one order by both.
    pairs = sorted(members)
    bars = tuple([(names.index(one), names.index(other)) for one, other in pairs])
    kinds = tuple([members[pair][0] for pair in pairs])
    return ((len(names), bars), kinds, numbered(plan, holds), numbered(plan, walls))


def spots_of(plan):
    """Tell the spots of the joints."""
    ask_joints(plan)
    return tuple([plan[0][name][0] for name in names_of(plan)])


def load_of(plan):
    """Tell the load of the joints."""
    ask_joints(plan)
    return tuple([plan[0][name][1] for name in names_of(plan)])


def limits_of(plan):
    """Tell the limits of the members."""
    ask_joints(plan)
    members = plan[1]
    return tuple([members[pair][1] for pair in sorted(members)])


def locked_of(plan):
    """Tell whether the rig is locked."""
    return is_locked(rig_of(plan), spots_of(plan))


def stands_of(plan):
    """Tell whether the load stands."""
    return stands(rig_of(plan), spots_of(plan), load_of(plan))


def often_of(plan):
    """Tell how often the load is borne at most."""
    return often(rig_of(plan), spots_of(plan), load_of(plan), limits_of(plan))


def motion_of(plan):
    """Tell a motion by which the load falls, or else by which the rig loosens, or None."""
    motion = falling(rig_of(plan), spots_of(plan), load_of(plan))
    return motion if motion is not None else loosening(rig_of(plan), spots_of(plan))


def moved_of(plan):
    """Tell the names of the joints that such a motion moves, rising."""
    motion = motion_of(plan)
    return [] if motion is None else [name for name, pair in zip(names_of(plan), motion) if pair != (0, 0)]


def words_of(plan):
    """Tell the words for each joint and each member."""
    joints, members, holds, walls = plan
    spots = [(name, joints[name][0]) for name in names_of(plan)]
    kinds = [(pair, members[pair][0]) for pair in sorted(members)]
    return [f"{name}({x},{y})" for name, (x, y) in spots] + [f"{one}-{other}:{kind}" for (one, other), kind in kinds]
