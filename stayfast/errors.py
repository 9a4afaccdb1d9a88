"""The refusals: two families under RigError, each refusal straight under its family."""


class RigError(ValueError):
    """Any refusal."""


class FormError(RigError):
    """What was handed in has not the form that is asked for."""


class NowError(RigError):
    """What was handed in has the form, but can't be done as things are now."""


class NoName(FormError):
    """This is no name of a joint."""


class NoSpot(FormError):
    """This is no spot."""


class NoLoad(FormError):
    """This is no load of a joint."""


class NoKind(FormError):
    """This is no kind of a member."""


class NoLimit(FormError):
    """This is no limit of a member."""


class NoWay(FormError):
    """This is no way of a hold or a wall."""


class NoDeed(FormError):
    """This is no list of deeds."""


class NoText(FormError):
    """This is no text that can be read."""


class NoLine(FormError):
    """This is no line that the desk knows."""


class NoBar(NowError):
    """Between these two there is no bar, there can be none, or there is one already."""

    def __init__(self, one, other):
        super().__init__(f"no bar to have between {one} and {other}")
        self.one = one
        self.other = other


class NoJoint(NowError):
    """There is no joint of this name."""

    def __init__(self, name):
        super().__init__(f"no joint has the name {name!r}")
        self.name = name


class Twice(NowError):
    """There is a joint of this name already."""

    def __init__(self, name):
        super().__init__(f"a joint has the name {name!r} already")
        self.name = name


class Held(NowError):
    """The joint of this name has this hold or wall already."""

    def __init__(self, name):
        super().__init__(f"the joint {name!r} is held so already")
        self.name = name


class NotHeld(NowError):
    """The joint of this name has no hold and no wall."""

    def __init__(self, name):
        super().__init__(f"the joint {name!r} has no hold and no wall")
        self.name = name


class Full(NowError):
    """There are as many as there may be."""

    def __init__(self, many):
        super().__init__(f"there may be no more than {many}")
        self.many = many


class NothingLeft(NowError):
    """There is nothing left to take back or to do again."""
