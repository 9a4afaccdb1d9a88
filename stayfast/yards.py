"""Yards: joints and members by names, changed by deeds, taken back, and done again."""

from stayfast.errors import NoDeed, NothingLeft
from stayfast.plans import (
    after, are_deeds, bare_plan, limits_of, load_of, locked_of, moved_of, names_of, often_of, rig_of, spots_of,
    stands_of, words_of,
)


class Yard:
    """A yard, at first without joints."""

    def __init__(self):
        self.plan = bare_plan()
        self.earlier = []
        self.undone = []
        self.lines = []

    def planned(self, plan, word, handed):
        """Tell what the deed makes of the plan, with the log around it."""
        self.lines.append(("in", word))
        try:
            return after(plan, word, handed)
        finally:
            self.lines.append(("out", word))

    def keep(self, plan):
        """Have the plan from now on, as one deed."""
        self.earlier.append(self.plan)
        self.undone = []
        self.plan = plan

    def do(self, word, handed):
        """Do the deed of that word."""
        self.keep(self.planned(self.plan, word, handed))

    def put(self, name, x, y):
        """Put a joint at a spot."""
        self.do("put", (name, x, y))

    def shift(self, name, x, y):
        """Shift a joint to another spot."""
        self.do("shift", (name, x, y))

    def take(self, name):
        """Take a joint away, with all of it."""
        self.do("take", (name,))

    def weigh(self, name, x, y):
        """Load a joint."""
        self.do("weigh", (name, x, y))

    def tie(self, one, other, *, kind="bar", limit=100):
        """Put a member between two joints."""
        self.do("tie", (one, other, kind, limit))

    def untie(self, one, other):
        """Take the member between two joints away."""
        self.do("untie", (one, other))

    def hold(self, name, a, b):
        """Give a joint a hold."""
        self.do("hold", (name, a, b))

    def wall(self, name, a, b):
        """Give a joint a wall."""
        self.do("wall", (name, a, b))

    def free(self, name):
        """Let a joint go, of all its holds and walls."""
        self.do("free", (name,))

    def after_all(self, deeds):
        """Tell what the deeds make of the plan, one after another."""
        if not are_deeds(deeds):
            raise NoDeed("deeds are a list of tuples of a word and what its method is handed")
        plan = self.plan
        for word, *handed in deeds:
            plan = self.planned(plan, word, handed)
        return plan

    def together(self, deeds):
        """Do all of the deeds as one, or none."""
        self.lines.append(("in", "together"))
        try:
            self.keep(self.after_all(deeds))
        finally:
            self.lines.append(("out", "together"))

    def swap(self, plans, others):
        """Have the last of the plans from now on, and the one that was there as the last of the others."""
        if len(plans) == 0:
            raise NothingLeft("nothing is left to take back or to do again")
        others.append(self.plan)
        self.plan = plans.pop()

    def back(self):
        """Take back what was done last."""
        self.lines.append(("in", "back"))
        try:
            self.swap(self.earlier, self.undone)
        finally:
            self.lines.append(("out", "back"))

    def again(self):
        """Do again what was taken back last."""
        self.lines.append(("in", "again"))
        try:
            self.swap(self.undone, self.earlier)
        finally:
            self.lines.append(("out", "again"))

    def names(self):
        """Tell the names of the joints, rising."""
        return names_of(self.plan)

    def log(self):
        """Tell the pairs of all that began and ended."""
        return list(self.lines)

    def rig(self):
        """Tell the rig."""
        return rig_of(self.plan)

    def spots(self):
        """Tell the spots."""
        return spots_of(self.plan)

    def load(self):
        """Tell the load."""
        return load_of(self.plan)

    def limits(self):
        """Tell the limits."""
        return limits_of(self.plan)

    def is_locked(self):
        """Tell whether the rig is locked."""
        return locked_of(self.plan)

    def stands(self):
        """Tell whether the load stands."""
        return stands_of(self.plan)

    def often(self):
        """Tell how often the load is borne at most."""
        return often_of(self.plan)

    def moved(self):
        """Tell the names of the joints moved where the load falls, or else the rig loosens."""
        return moved_of(self.plan)

    def __len__(self):
        return len(self.plan[0])

    def __str__(self):
        return " ".join(words_of(self.plan))

    def __eq__(self, other):
        return isinstance(other, Yard) and self.plan == other.plan
