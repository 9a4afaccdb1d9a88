"""Motions: what they keep, whether a frame is fast, and papers that it is."""

from stayfast.weights import are_weights, in_pairs, pair_row, rank, sifted, weights_row
from stayfast.wholes import answer_from, are_wholes, cleared, is_whole, lead_of, times


def is_motion(frame, thing):
    """Tell of anything whether it is a motion of the frame."""
    if not isinstance(thing, tuple) or len(thing) != frame[0]:
        return False
    return all([are_wholes(pair, 2) for pair in thing])


def grows(spots, motion, one, other):
    """Tell by how much the two joints grow apart by the motion."""
    (x1, y1), (x2, y2) = spots[one], spots[other]
    (a1, b1), (a2, b2) = motion[one], motion[other]
    return (x1 - x2) * (a1 - a2) + (y1 - y2) * (b1 - b2)


def moves(frame, spots, thing):
    """Tell of anything whether it is a motion that moves the frame."""
    if not is_motion(frame, thing):
        return False
    return all([grows(spots, thing, one, other) == 0 for one, other in frame[1]])


def less(pairs, start):
    """Tell each of the pairs less the start, number by number."""
    return [(first - start[0], second - start[1]) for first, second in pairs]


def is_stiff(spots, motion):
    """Tell whether the motion is stiff."""
    # Seen from joint 0, d and e are nought, and where c and f are there f by c is turn by size.
    ways = less(spots, spots[0])
    shifts = less(motion, motion[0])
    size = sum([x * x + y * y for x, y in ways])
    turn = sum([x * b - y * a for (x, y), (a, b) in zip(ways, shifts)])
    # Where all spots are one the size is 0, but c must not be.
    c = max(1, size)
    return all([(c * a, c * b) == (-turn * y, turn * x) for (x, y), (a, b) in zip(ways, shifts)])


def pairs_of(many):
    """Tell all pairs of so many joints, rising, each as a bar has it."""
    return tuple([(one, other) for one in range(many) for other in range(one + 1, many)])


def no_bars(frame):
    """Tell the pairs of joints that are no bars, rising."""
    many, bars = frame
    return [pair for pair in pairs_of(many) if pair not in bars]


def is_fast(frame, spots):
    """Tell whether the frame is fast."""
    # More bars allow no more motions; they allow fewer just where they make a greater lot sound.
    every = (frame[0], pairs_of(frame[0]))
    return rank(frame, spots) == rank(every, spots)


def moving(frame, spots):
    """Tell a motion that moves the frame and doesn't keep some two joints, or None."""
    steps = sifted(spots, frame[1])[0]
    for one, other in no_bars(frame):
        # What the bars can't clear of the pair is what a motion can change of it.
        place = lead_of(cleared(pair_row(spots, one, other), steps))
        if place is not None:
            return in_pairs(answer_from(steps, place, 2 * len(spots)))
    return None


def fast_paper(frame, spots):
    """Tell a paper that the frame is fast, or None."""
    if not is_fast(frame, spots):
        return None
    bars = frame[1]
    others = no_bars(frame)
    # The pairs come behind the bars, so none of them is sound with these, and the last weights are theirs.
    told = sifted(spots, list(bars) + others)[2]
    paper = []
    for at, (one, other) in enumerate(others):
        weights = told[len(told) - len(others) + at]
        bottom = weights[len(bars) + at]
        paper.append((one, other, bottom, tuple(times(-1, weights[:len(bars)]))))
    return paper


def is_paper_row(frame, spots, pair, thing):
    """Tell of anything whether it is a paper's row for that pair."""
    if not isinstance(thing, tuple) or len(thing) != 4:
        return False
    one, other, bottom, weights = thing
    # A truth is equal to a number, so the kinds are asked first.
    if not are_wholes((one, other), 2) or (one, other) != pair:
        return False
    if not is_whole(bottom) or bottom < 1 or not are_weights(frame, weights):
        return False
    return weights_row(frame, spots, weights) == times(bottom, pair_row(spots, one, other))


def fast_shown(frame, spots, paper):
    """Tell of anything whether it is a paper that the frame is fast."""
    others = no_bars(frame)
    if not isinstance(paper, list) or len(paper) != len(others):
        return False
    return all([is_paper_row(frame, spots, pair, row) for pair, row in zip(others, paper)])
