"""Things of all the kinds that a caller may ask about, none of them a frame or spots."""


def nested(make, depth):
    """A list or tuple within another one, and so on, depth of them."""
    thing = make([])
    for _ in range(depth - 1):
        thing = make([thing])
    return thing


def plain_things():
    """Things that are no tuples."""
    huge = 10**100 - 1
    return [
        None, True, False, 0, 1, -1, 6, huge, -huge, "", "a", "(1, ())", "01", "\n", "~" * 4000,
        [], [0], [0, 0], [1, []], [1, ()], [[0, 0]], [(0, 0)], [None], nested(list, 10),
    ]


def anythings():
    """The plain things, and tuples of them, none of these a frame, a bar or a spot."""
    tuples = [(thing,) for thing in plain_things()]
    pairs = [(thing, "a") for thing in plain_things()] + [(None, thing) for thing in plain_things()]
    return plain_things() + tuples + pairs + [nested(tuple, 10), ((((1, ()),),),)]


def not_whole():
    """Things that stand where a whole number should, and are none."""
    return [None, True, False, "", "0", "1", [], [0], [1], (), (0,), (1,), (0, 1), nested(list, 7), nested(tuple, 7)]


def wrong_kinds(thing):
    """The thing with one place of a wrong kind: no whole number, another text, a list for a tuple or the other way.

    Where a number is 0 or 1, a truth that is equal to it is among what stands there instead.
    """
    if isinstance(thing, str):
        yield from ("", thing.upper(), thing + "s", " " + thing, thing[:-1], None, True, False, 0, 1, [thing], (thing,))
    elif isinstance(thing, int):
        yield from not_whole()
    else:
        kind = type(thing)
        yield (list if kind is tuple else tuple)(thing)
        for at, part in enumerate(thing):
            for wrong in wrong_kinds(part):
                yield thing[:at] + kind([wrong]) + thing[at + 1:]


def wrong_lengths(thing):
    """The tuple or list without each of its things, and with one more at its end."""
    for at in range(len(thing)):
        yield thing[:at] + thing[at + 1:]
    for more in (*thing[-1:], 0, None, (0, 0)):
        yield thing + type(thing)([more])
