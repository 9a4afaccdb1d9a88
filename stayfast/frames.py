"""Frames, spots of a frame, and what is told of them."""

from stayfast.errors import NoBar
from stayfast.wholes import is_whole_from, rises

JOINTS = 6
FARTHEST = 999


def is_pair(thing):
    """Tell of anything whether it is a tuple of two things."""
    return isinstance(thing, tuple) and len(thing) == 2


def is_bar(many, thing):
    """Tell of anything whether it can be a bar where there are many joints."""
    if not is_pair(thing):
        return False
    one, other = thing
    last = many - 1
    return is_whole_from(one, 0, last) and is_whole_from(other, 0, last) and one < other


def are_bars(many, thing):
    """Tell of anything whether it is a rising tuple of bars where there are many joints."""
    # Things that are no bars can't always be compared, so rising is asked last.
    if not isinstance(thing, tuple) or not all([is_bar(many, bar) for bar in thing]):
        return False
    return rises(thing)


def is_frame(thing):
    """Tell of anything whether it is a frame."""
    if not is_pair(thing):
        return False
    many, bars = thing
    return is_whole_from(many, 1, JOINTS) and are_bars(many, bars)


def is_spot(thing):
    """Tell of anything whether it is a spot."""
    return is_pair(thing) and all([is_whole_from(number, -FARTHEST, FARTHEST) for number in thing])


def are_spots(frame, thing):
    """Tell of anything whether it is spots of the frame."""
    if not isinstance(thing, tuple) or len(thing) != frame[0]:
        return False
    return all([is_spot(spot) for spot in thing])


def joined(frame, joint):
    """Tell the joints joined with the joint, rising."""
    ends = []
    # Bars rise, so those that end at the joint come first, and the ends rise as well.
    for one, other in frame[1]:
        if other == joint:
            ends.append(one)
        elif one == joint:
            ends.append(other)
    return ends


def bar_between(one, other):
    """Tell the pair of both as a bar has it, the lesser one first."""
    return (min(one, other), max(one, other))


def without(frame, one, other):
    """Tell the frame without the bar between one and other; NoBar where there is none."""
    many, bars = frame
    gone = bar_between(one, other)
    if gone not in bars:
        raise NoBar(one, other)
    return (many, tuple([bar for bar in bars if bar != gone]))


def with_bar(frame, one, other):
    """Tell the frame with a bar more between one and other; NoBar where none can be, or one is."""
    many, bars = frame
    more = bar_between(one, other)
    if not is_bar(many, more) or more in bars:
        raise NoBar(one, other)
    return (many, tuple(sorted([*bars, more])))
