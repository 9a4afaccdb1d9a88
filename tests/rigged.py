"""Drawn rigs and forces, the same in each run, rigs that are known, and a second reckoning of what goes and bears."""

import random

from tests.drawn import (
    come_to, drawn_cases, drawn_pairs, growth, made_greater, mirrored, numbered_otherwise, pairs_of, put_elsewhere,
    quarter,
)

KINDS = ("bar", "rope", "prop")
SIGNS = {"bar": (-1, 0, 1), "rope": (0, 1), "prop": (-1, 0)}
SIX_STAYS = tuple([(0, at, 1) for at in range(6)])


def held(*joints):
    """Two holds for each joint, so that it stays where it is."""
    return tuple(sorted([(joint, *way) for joint in joints for way in ((0, 1), (1, 0))]))


def drawn_stays(draw, many):
    """Holds or walls of that many joints, rising, from none to six."""
    drawn = {(draw.randrange(many), draw.randint(-3, 3), draw.randint(-3, 3)) for _ in range(draw.randint(0, 6))}
    return tuple(sorted([stay for stay in drawn if stay[1:] != (0, 0)]))


def drawn_kinds(draw, frame):
    """A kind for each bar: of all three, or of one alone."""
    kinds = draw.choice((KINDS, KINDS, KINDS, ("bar",), ("rope",), ("prop",), ("rope", "prop")))
    return tuple([draw.choice(kinds) for _ in frame[1]])


def drawn_rigs(seed, count):
    """Rigs with spots, by drawn frames."""
    draw = random.Random(seed)
    rigs = []
    for frame, spots in drawn_cases(seed, count):
        kinds = drawn_kinds(draw, frame)
        rigs.append(((frame, kinds, drawn_stays(draw, frame[0]), drawn_stays(draw, frame[0])), spots))
    return rigs


def six_drawn_stays(draw):
    """Six holds or walls of six joints, of any ways."""
    stays = set()
    while len(stays) < 6:
        way = (draw.randint(-99, 99), draw.randint(-99, 99))
        if way != (0, 0):
            stays.add((draw.randrange(6), *way))
    return tuple(sorted(stays))


def largest_rigs(seed, count):
    """Rigs of six joints with fifteen members of all three kinds, six holds and six walls, with spots."""
    draw = random.Random(seed)
    rigs = []
    for at in range(count):
        kinds = list(KINDS * 5)
        draw.shuffle(kinds)
        spots = drawn_pairs(draw, 6, (999, 2, 30)[at % 3])
        rigs.append((((6, pairs_of(6)), tuple(kinds), six_drawn_stays(draw), six_drawn_stays(draw)), spots))
    return rigs


def drawn_force(draw, rig, far):
    """A force of the rig with numbers from -far to far."""
    weights = tuple([draw.randint(far * min(SIGNS[kind]), far * max(SIGNS[kind])) for kind in rig[1]])
    pushes = tuple([draw.randint(-far, far) for _ in rig[2]])
    return (weights, pushes, tuple([draw.randint(0, far) for _ in rig[3]]))


def drawn_loads(draw, rig, spots):
    """Loads of the rig: of noughts, of numbers small and of a hundred figures, and such as a force comes to."""
    many = rig[0][0]
    huge = 10**100 - 1
    lone = [(0, 0)] * many
    lone[draw.randrange(many)] = (draw.randint(-1, 1), draw.randint(-1, 1))
    return [
        ((0, 0),) * many, drawn_pairs(draw, many, 1), drawn_pairs(draw, many, huge), tuple(lone),
        forced(rig, spots, drawn_force(draw, rig, 1)), forced(rig, spots, drawn_force(draw, rig, 9)),
    ]


def sign(number):
    return (number > 0) - (number < 0)


def along(motion, stay):
    joint, a, b = stay
    return motion[joint][0] * a + motion[joint][1] * b


def let_by_stays(rig, motion):
    """Whether holds and walls let the motion go."""
    return not any([along(motion, hold) for hold in rig[2]]) and all([along(motion, wall) <= 0 for wall in rig[3]])


def let_go(rig, spots, motion):
    """Whether the motion goes: no force of one member alone does work above 0 by it."""
    signs = {"bar": (0,), "rope": (-1, 0), "prop": (0, 1)}
    for kind, bar in zip(rig[1], rig[0][1]):
        if sign(growth(spots, motion, *bar)) not in signs[kind]:
            return False
    return let_by_stays(rig, motion)


def bearable(rig, force):
    """Whether each member can bear what the force has for it."""
    return all([sign(weight) in SIGNS[kind] for kind, weight in zip(rig[1], force[0])]) and min((0, *force[2])) == 0


def forced(rig, spots, force):
    """What the force comes to, joint by joint."""
    told = [list(pair) for pair in come_to(rig[0][1], spots, force[0])]
    for much, (joint, a, b) in zip(force[1] + force[2], rig[2] + rig[3]):
        told[joint][0] += much * a
        told[joint][1] += much * b
    return tuple([tuple(pair) for pair in told])


def so_often(count, pairs):
    """The pairs taken so many times."""
    return tuple([(count * a, count * b) for a, b in pairs])


def put_together(pairs, others):
    return tuple([(a + c, b + d) for (a, b), (c, d) in zip(pairs, others)])


def force_so_often(count, force):
    return tuple([tuple([count * number for number in part]) for part in force])


def done(pairs, others):
    """The work of one on the other."""
    return sum([a * c + b * d for (a, b), (c, d) in zip(pairs, others)])


def stays_by(stays, change):
    """The stays with their ways changed, in their new order."""
    return tuple(sorted([(joint, *change(((a, b),))[0]) for joint, a, b in stays]))


def like_rigs(rig, spots, pairs):
    """The rig, its spots and a load or motion of it put elsewhere, made greater, turned and mirrored.

    The spots lie from -99 to 99.
    """
    frame, kinds, holds, walls = rig
    like = [(rig, put_elsewhere(spots, 17, -900), pairs), (rig, made_greater(spots, 10), pairs)]
    for change in (quarter, mirrored, lambda these: quarter(mirrored(quarter(quarter(these))))):
        changed = (frame, kinds, stays_by(holds, change), stays_by(walls, change))
        like.append((changed, change(spots), change(pairs)))
    return like


def rig_numbered_otherwise(rig, order):
    """The rig where joint k is order[k] from now on, and where each of its bars was before."""
    frame, kinds, holds, walls = rig
    renamed = numbered_otherwise(frame, ((0, 0),) * frame[0], order)[0]
    places = [tuple(sorted((order[one], order[other]))) for one, other in frame[1]]
    was = [places.index(bar) for bar in renamed[1]]
    stays = [tuple(sorted([(order[joint], a, b) for joint, a, b in these])) for these in (holds, walls)]
    return (renamed, tuple([kinds[at] for at in was]), *stays), was


def pairs_numbered_otherwise(pairs, order):
    moved = [None] * len(pairs)
    for joint, pair in enumerate(pairs):
        moved[order[joint]] = pair
    return tuple(moved)


def spoilt(thing):
    """The thing with one of its numbers changed a little, by much, to its opposite or to nought."""
    if isinstance(thing, int):
        for other in (thing + 1, thing - 1, -thing, 0, 2 * thing, thing + 10**100):
            if other != thing:
                yield other
        return
    for at, part in enumerate(thing):
        for other in spoilt(part):
            yield thing[:at] + (other,) + thing[at + 1:]


def given_way(rig, spots, limits, motion):
    """What all bars give by the motion, each times its limit."""
    total = 0
    for bar, kind, limit in zip(rig[0][1], rig[1], limits):
        grown = growth(spots, motion, *bar)
        # A member gives what it would bear against: on the sides that its weight can have.
        total += limit * max([way * grown for way in SIGNS[kind]] + [0])
    return total


def drawn_limits(draw, rig):
    """Limits of the rig: any, small, all 0, all 999."""
    low, high = draw.choice(((0, 999), (0, 9), (0, 0), (999, 999), (1, 999)))
    return tuple([draw.randint(low, high) for _ in rig[1]])


def beside(rig, other):
    """Two rigs as one, the other one's joints numbered behind."""
    (many, bars), kinds, holds, walls = rig
    (more, more_bars), more_kinds, more_holds, more_walls = other
    frame = (many + more, bars + tuple([(many + one, many + end) for one, end in more_bars]))
    stays = [these + tuple([(many + joint, a, b) for joint, a, b in those])
             for these, those in ((holds, more_holds), (walls, more_walls))]
    return (frame, kinds + more_kinds, *stays)


def turned_about(rig):
    """The rig with ropes for props, props for ropes, and walls turned round."""
    frame, kinds, holds, walls = rig
    swapped = {"bar": "bar", "rope": "prop", "prop": "rope"}
    return (frame, tuple([swapped[kind] for kind in kinds]), holds,
            tuple(sorted([(joint, -a, -b) for joint, a, b in walls])))
