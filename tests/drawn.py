"""Drawn frames, spots and motions, the same in each run, and a second reckoning with fractions."""

import itertools
import random
from fractions import Fraction

HUGE = 10**100 - 1


def pairs_of(many):
    """All pairs of so many joints, rising."""
    return tuple(itertools.combinations(range(many), 2))


def frames_of(many):
    """Every frame of that many joints."""
    pairs = pairs_of(many)
    for size in range(len(pairs) + 1):
        for bars in itertools.combinations(pairs, size):
            yield (many, bars)


def small_frames():
    """Every frame of at most four joints."""
    return [frame for many in range(1, 5) for frame in frames_of(many)]


def small_spots(many):
    """Some spots of at most four joints: apart, in line, on one another, at the edges, all on one."""
    rows = (
        ((0, 0), (4, 0), (5, 3), (1, 7)),
        ((0, 0), (4, 0), (4, 3), (0, 3)),
        ((0, 0), (1, 2), (3, 6), (-2, -4)),
        ((0, 0), (2, 0), (1, 0), (1, 5)),
        ((3, 4), (3, 4), (1, 1), (0, 0)),
        ((3, 4), (1, 1), (3, 4), (1, 1)),
        ((-999, -999), (999, 999), (999, -999), (-999, 998)),
        ((7, -7),) * 4,
    )
    return [row[:many] for row in rows]


def spots_in_line(draw, many):
    x, y, across, up = (draw.randint(-99, 99) for _ in range(4))
    return tuple([(x + at * across, y + at * up) for at in (draw.randint(-9, 9) for _ in range(many))])


def drawn_spots(draw, many):
    """Spots apart, on a small field, in line, on one another, at the edges, or all on one."""
    way = draw.randrange(6)
    if way == 0:
        return tuple([(draw.randint(-999, 999), draw.randint(-999, 999)) for _ in range(many)])
    if way == 1:
        return tuple([(draw.randint(0, 2), draw.randint(0, 2)) for _ in range(many)])
    if way == 2:
        return spots_in_line(draw, many)
    if way == 3:
        few = [(draw.randint(-9, 9), draw.randint(-9, 9)) for _ in range(3)]
        return tuple([draw.choice(few) for _ in range(many)])
    if way == 4:
        return tuple([(draw.choice((-999, 999)), draw.choice((-999, 999, 0))) for _ in range(many)])
    return ((draw.randint(-999, 999), draw.randint(-999, 999)),) * many


def drawn_frame(draw, many):
    """A frame of that many joints, with no, some or all bars."""
    often = draw.choice((0, 30, 50, 70, 90, 100))
    return (many, tuple([pair for pair in pairs_of(many) if draw.randrange(100) < often]))


def drawn_cases(seed, count):
    """So many drawn frames with spots."""
    draw = random.Random(seed)
    cases = []
    for _ in range(count):
        many = draw.choice((1, 2, 3, 4, 5, 5, 6, 6, 6))
        cases.append((drawn_frame(draw, many), drawn_spots(draw, many)))
    return cases


def all_cases(seed, count):
    """Every small frame at the small spots, and drawn ones."""
    small = [(frame, spots) for frame in small_frames() for spots in small_spots(frame[0])]
    return small + drawn_cases(seed, count)


def drawn_pairs(draw, many, far):
    """A motion of that many joints with numbers from -far to far."""
    return tuple([(draw.randint(-far, far), draw.randint(-far, far)) for _ in range(many)])


def growth(spots, motion, one, other):
    """By how much both grow apart: half of how their distance, squared, changes at first."""
    return sum([(spots[one][at] - spots[other][at]) * (motion[one][at] - motion[other][at]) for at in (0, 1)])


def come_to(pairs, spots, weights):
    """What the weights of the pairs come to, joint by joint."""
    told = []
    for joint, (x, y) in enumerate(spots):
        ends = [(weight, spots[sum(pair) - joint]) for weight, pair in zip(weights, pairs) if joint in pair]
        told.append((sum([w * (x - far[0]) for w, far in ends]), sum([w * (y - far[1]) for w, far in ends])))
    return tuple(told)


def rank_of(rows):
    """The rank of rows of numbers, by fractions."""
    rows = [[Fraction(number) for number in row] for row in rows]
    rank = 0
    for at in range(len(rows[0]) if rows else 0):
        found = [row for row in rows[rank:] if row[at] != 0]
        if not found:
            continue
        first = found[0]
        rows.remove(first)
        rows.insert(rank, first)
        rank += 1
        for later in rows[rank:]:
            share = later[at] / first[at]
            later[:] = [number - share * taken for number, taken in zip(later, first)]
    return rank


def flat(pairs):
    return [number for pair in pairs for number in pair]


def bars_rank(spots, bars):
    """How many of the bars are sound together, at most."""
    return rank_of([flat(come_to((bar,), spots, (1,))) for bar in bars])


def quarter(spots):
    return tuple([(-y, x) for x, y in spots])


def mirrored(spots):
    return tuple([(-x, y) for x, y in spots])


def put_elsewhere(spots, across, up):
    return tuple([(x + across, y + up) for x, y in spots])


def made_greater(spots, by):
    return tuple([(by * x, by * y) for x, y in spots])


def likenesses(spots):
    """The same spots, which lie from -99 to 99, put elsewhere, made greater, turned, mirrored."""
    return [
        put_elsewhere(spots, 17, -900), made_greater(spots, 10), quarter(spots), quarter(quarter(spots)),
        mirrored(spots), put_elsewhere(made_greater(mirrored(quarter(spots)), 7), -306, 306),
    ]


def numbered_otherwise(frame, spots, order):
    """The frame and spots, where joint k is order[k] from now on."""
    many, bars = frame
    moved = [None] * many
    for joint, spot in enumerate(spots):
        moved[order[joint]] = spot
    renamed = sorted([tuple(sorted((order[one], order[other]))) for one, other in bars])
    return (many, tuple(renamed)), tuple(moved)
