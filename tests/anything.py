"""Things of all the kinds that a caller may ask about, none of them a frame or spots."""


def nested(make, depth):
    """A list or tuple within another one, and so on, depth of them."""
    thing = make([])
    for _ in range(depth - 1):
        thing = make([thing])
    return thing


def plain_things():
    """Things that are no tuples."""
    huge = 10**100 - 1
    return [
        None, True, False, 0, 1, -1, 6, huge, -huge, "", "a", "(1, ())", "01", "\n", "~" * 4000,
        [], [0], [0, 0], [1, []], [1, ()], [[0, 0]], [(0, 0)], [None], nested(list, 10),
    ]


def anythings():
    """The plain things, and tuples of them, none of these a frame, a bar or a spot."""
    tuples = [(thing,) for thing in plain_things()]
    pairs = [(thing, "a") for thing in plain_things()] + [(None, thing) for thing in plain_things()]
    return plain_things() + tuples + pairs + [nested(tuple, 10), ((((1, ()),),),)]


def not_whole():
    """Things that stand where a whole number should, and are none."""
    return [None, True, False, "", "0", "1", [], [0], [1], (), (0,), (1,), (0, 1), nested(list, 7), nested(tuple, 7)]
