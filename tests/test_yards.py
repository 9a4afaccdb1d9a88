"""Yards: deeds and their refusals, deeds together, back and again, the log, and what is told."""

import copy
import itertools
import random
import unittest

from stayfast.errors import (
    Full, Held, NoBar, NoDeed, NoJoint, NoKind, NoLimit, NoLoad, NoName, NoSpot, NotHeld, NothingLeft, NoWay, RigError,
    Twice,
)
from stayfast.frames import are_spots
from stayfast.limits import often
from stayfast.loads import falling, stands
from stayfast.locks import is_locked, loosening
from stayfast.rigs import is_rig
from stayfast.yards import Yard
from tests.anything import anythings, nested, not_whole, plain_things
from tests.drawn import HUGE

DEEDS = (
    ("put", "a", 0, 0), ("put", "b", 4, 0), ("put", "c", 0, 3), ("tie", "a", "b", "bar", 100),
    ("tie", "c", "a", "rope", 50), ("tie", "b", "c", "prop", 7), ("hold", "a", 1, 0), ("hold", "a", 0, 1),
    ("wall", "b", 0, -1), ("weigh", "c", 5, -6), ("shift", "c", -1, 3),
)
WORDS = ("put", "shift", "take", "weigh", "tie", "untie", "hold", "wall", "free")


def do(yard, deed):
    """Do one deed by its method."""
    word, *handed = deed
    if word == "tie":
        one, other, kind, limit = handed
        return yard.tie(one, other, kind=kind, limit=limit)
    return getattr(yard, word)(*handed)


def yard_of(deeds):
    """A yard in which these deeds were done."""
    yard = Yard()
    for deed in deeds:
        do(yard, deed)
    return yard


def all_told(yard):
    """All that is told of a yard but its log."""
    told = [yard.names(), len(yard), str(yard)]
    if len(yard) > 0:
        told += [yard.rig(), yard.spots(), yard.load(), yard.limits()]
        told += [yard.is_locked(), yard.stands(), yard.often(), yard.moved()]
    return told


def many_joints(many):
    """A yard of so many joints, named a, b and so on."""
    return yard_of([("put", name, at, at * at) for at, name in enumerate("abcdef"[:many])])


class Case(unittest.TestCase):
    def refused(self, yard, deed, error, **fields):
        """The deed is refused with the error, by its method and as one of a list, and changes nothing but the log."""
        before, kept, log = all_told(yard), copy.deepcopy(yard), yard.log()
        with self.assertRaises(error) as caught:
            do(yard, deed)
        self.assertIs(type(caught.exception), error)
        self.assertEqual(vars(caught.exception), fields)
        self.assertEqual(yard.log(), log + [("in", deed[0]), ("out", deed[0])])
        with self.assertRaises(error) as caught:
            yard.together([deed])
        self.assertIs(type(caught.exception), error)
        self.assertEqual(vars(caught.exception), fields)
        self.assertEqual(all_told(yard), before)
        self.assertTrue(yard == kept)

    def done(self, yard, deed, other):
        """The deed tells None, and the yard is like the other one then."""
        log = yard.log()
        self.assertIsNone(do(yard, deed))
        self.assertEqual(yard.log(), log + [("in", deed[0]), ("out", deed[0])])
        self.assertTrue(yard == yard_of(other))
        self.assertEqual(all_told(yard), all_told(yard_of(other)))


class Put(Case):
    def test_names(self):
        for name in ("a", "z", "ab", "abcdefgh", "zzzzzzzz"):
            yard = Yard()
            self.assertIsNone(yard.put(name, 1, 2))
            self.assertEqual((yard.names(), yard.spots(), yard.load()), ([name], ((1, 2),), ((0, 0),)))

    def test_what_is_no_name(self):
        wrong = ["", "abcdefghi", "A", "aB", "a1", "a b", " a", "a ", "a\n", "\n", "-", "a_b", "1", "a" * 4000]
        for name in wrong + [thing for thing in anythings() if thing != "a"]:
            self.refused(Yard(), ("put", name, 0, 0), NoName)
            self.refused(Yard(), ("put", name, 1000, None), NoName)
            self.refused(many_joints(6), ("put", name, 0, 0), NoName)

    def test_letters_beyond_those_of_english(self):
        for name in ("\u00e4", "\u03b1", "a\u0300", "\uff41", "\u00df"):
            self.refused(Yard(), ("put", name, 0, 0), NoName)

    def test_spots(self):
        for x, y in itertools.product((-HUGE, -1000, -999, 0, 999, 1000, HUGE), repeat=2):
            deed = ("put", "a", x, y)
            if max(abs(x), abs(y)) <= 999:
                self.assertEqual(yard_of([deed]).spots(), ((x, y),))
            else:
                self.refused(Yard(), deed, NoSpot)

    def test_what_is_no_spot(self):
        for thing in not_whole() + plain_things()[:3] + [nested(list, 8)]:
            for spot in ((thing, 0), (0, thing), (thing, thing)):
                self.refused(Yard(), ("put", "a", *spot), NoSpot)
                self.refused(many_joints(6), ("put", "a", *spot), NoSpot)

    def test_twice(self):
        for many in range(1, 7):
            for name in "abcdef"[:many]:
                self.refused(many_joints(many), ("put", name, 9, 9), Twice, name=name)

    def test_full(self):
        for many in range(6):
            yard = many_joints(many)
            self.assertIsNone(yard.put("x", 9, 9))
            self.assertEqual(len(yard), many + 1)
        self.refused(many_joints(6), ("put", "x", 9, 9), Full, many=6)
        self.refused(many_joints(6), ("put", "x", 9, 1000), NoSpot)
        yard = many_joints(6)
        yard.take("c")
        self.assertIsNone(yard.put("x", 9, 9))

    def test_two_joints_at_one_spot(self):
        yard = yard_of([("put", "a", 5, 5), ("put", "b", 5, 5)])
        self.assertEqual(yard.spots(), ((5, 5), (5, 5)))


class Shift(Case):
    def test_done(self):
        yard = yard_of(DEEDS)
        self.done(yard, ("shift", "a", -999, 999), [("put", "a", -999, 999), *DEEDS[1:]])
        self.done(yard, ("shift", "a", 0, 0), DEEDS)

    def test_its_load_stays(self):
        yard = yard_of([("put", "a", 0, 0), ("weigh", "a", 3, 4), ("shift", "a", 7, 8)])
        self.assertEqual((yard.spots(), yard.load()), (((7, 8),), ((3, 4),)))

    def test_no_joint(self):
        for name in ("d", "", "A", "aa", "a ", "~" * 4000):
            for spot in ((0, 0), (1000, 0), (None, "")):
                self.refused(yard_of(DEEDS), ("shift", name, *spot), NoJoint, name=name)
                self.refused(Yard(), ("shift", name, *spot), NoJoint, name=name)

    def test_no_spot(self):
        for spot in [(1000, 0), (0, -1000), (HUGE, 0)] + [(0, thing) for thing in not_whole()]:
            self.refused(yard_of(DEEDS), ("shift", "c", *spot), NoSpot)
            self.refused(yard_of(DEEDS), ("shift", "c", *spot[::-1]), NoSpot)


class Take(Case):
    def test_done(self):
        yard = yard_of(DEEDS)
        self.done(yard, ("take", "a"), [("put", "b", 4, 0), ("put", "c", -1, 3), ("tie", "b", "c", "prop", 7),
                                        ("wall", "b", 0, -1), ("weigh", "c", 5, -6)])
        self.done(yard, ("take", "c"), [("put", "b", 4, 0), ("wall", "b", 0, -1)])
        self.done(yard, ("take", "b"), [])

    def test_put_again_it_has_nothing(self):
        yard = yard_of(DEEDS)
        yard.take("c")
        yard.put("c", -1, 3)
        self.assertEqual(yard.load(), ((0, 0),) * 3)
        self.assertEqual(str(yard), "a(0,0) b(4,0) c(-1,3) a-b:bar")
        yard.take("a")
        yard.put("a", 0, 0)
        self.assertEqual(yard.rig(), ((3, ()), (), (), ((1, 0, -1),)))

    def test_no_joint(self):
        for name in ("d", "", "ab"):
            self.refused(yard_of(DEEDS), ("take", name), NoJoint, name=name)
            self.refused(Yard(), ("take", name), NoJoint, name=name)


class Weigh(Case):
    def test_done(self):
        for x, y in itertools.product((-HUGE, -1000, -999, 0, 5, 999, 1000, HUGE), repeat=2):
            deed = ("weigh", "b", x, y)
            if max(abs(x), abs(y)) <= 999:
                yard = yard_of(DEEDS)
                self.assertIsNone(do(yard, deed))
                self.assertEqual(yard.load(), ((0, 0), (x, y), (5, -6)))
                self.assertEqual(yard.spots(), yard_of(DEEDS).spots())
            else:
                self.refused(yard_of(DEEDS), deed, NoLoad)

    def test_refusals_in_their_order(self):
        for load in [(1000, 0), (0, -1000)] + [(0, thing) for thing in not_whole()]:
            for turned in (load, load[::-1]):
                self.refused(yard_of(DEEDS), ("weigh", "b", *turned), NoLoad)
                self.refused(yard_of(DEEDS), ("weigh", "d", *turned), NoJoint, name="d")
        self.refused(yard_of(DEEDS), ("weigh", "", 0, 0), NoJoint, name="")


class Tie(Case):
    def test_kinds_and_limits(self):
        for kind, limit in itertools.product(("bar", "rope", "prop"), (0, 1, 100, 999)):
            for ends in (("b", "e"), ("e", "b")):
                yard = many_joints(6)
                self.assertIsNone(yard.tie(*ends, kind=kind, limit=limit))
                self.assertEqual(yard.rig(), ((6, ((1, 4),)), (kind,), (), ()))
                self.assertEqual(yard.limits(), (limit,))

    def test_what_is_left_out(self):
        yard = many_joints(3)
        yard.tie("a", "b")
        yard.tie("b", "c", kind="rope")
        yard.tie("a", "c", limit=7)
        self.assertEqual(yard.rig()[1], ("bar", "bar", "rope"))
        self.assertEqual(yard.limits(), (100, 7, 100))

    def test_no_joint_the_first_one_first(self):
        for kind, limit in (("bar", 100), ("iron", 100), ("bar", 1000)):
            self.refused(many_joints(2), ("tie", "x", "y", kind, limit), NoJoint, name="x")
            self.refused(many_joints(2), ("tie", "x", "x", kind, limit), NoJoint, name="x")
            self.refused(many_joints(2), ("tie", "x", "a", kind, limit), NoJoint, name="x")
            self.refused(many_joints(2), ("tie", "a", "y", kind, limit), NoJoint, name="y")
            self.refused(many_joints(2), ("tie", "", "y", kind, limit), NoJoint, name="")

    def test_no_kind(self):
        for kind in ["", "Bar", "bars", "bar ", "hold", "wall", "rop", ("bar",), ["bar"], *anythings()]:
            for limit in (100, 1000):
                self.refused(many_joints(2), ("tie", "a", "b", kind, limit), NoKind)
                self.refused(many_joints(2), ("tie", "a", "a", kind, limit), NoKind)

    def test_no_limit(self):
        for limit in [-1, 1000, HUGE, -HUGE, *not_whole()]:
            self.refused(many_joints(2), ("tie", "a", "b", "rope", limit), NoLimit)
            self.refused(many_joints(2), ("tie", "a", "a", "rope", limit), NoLimit)

    def test_no_bar(self):
        self.refused(many_joints(2), ("tie", "a", "a", "bar", 100), NoBar, one="a", other="a")
        yard = many_joints(2)
        yard.tie("a", "b")
        for kind in ("bar", "rope", "prop"):
            self.refused(yard, ("tie", "a", "b", kind, 5), NoBar, one="a", other="b")
            self.refused(yard, ("tie", "b", "a", kind, 5), NoBar, one="b", other="a")

    def test_all_fifteen(self):
        yard = many_joints(6)
        for one, other in itertools.combinations("fedcba", 2):
            yard.tie(one, other)
        self.assertEqual(yard.rig()[0][1], tuple(itertools.combinations(range(6), 2)))


class Untie(Case):
    def test_done(self):
        for ends in (("a", "b"), ("b", "a")):
            self.done(yard_of(DEEDS), ("untie", *ends), DEEDS[:3] + DEEDS[4:])

    def test_refusals_in_their_order(self):
        self.refused(yard_of(DEEDS), ("untie", "x", "y"), NoJoint, name="x")
        self.refused(yard_of(DEEDS), ("untie", "a", "y"), NoJoint, name="y")
        self.refused(yard_of(DEEDS), ("untie", "", "a"), NoJoint, name="")
        self.refused(yard_of(DEEDS), ("untie", "a", "a"), NoBar, one="a", other="a")
        yard = many_joints(3)
        yard.tie("a", "b")
        self.refused(yard, ("untie", "c", "a"), NoBar, one="c", other="a")
        yard.untie("b", "a")
        self.refused(yard, ("untie", "a", "b"), NoBar, one="a", other="b")


class Stays(Case):
    def told(self, yard, word):
        return yard.rig()[2 if word == "hold" else 3]

    def test_ways(self):
        for word, a, b in itertools.product(("hold", "wall"), (-HUGE, -100, -99, 0, 5, 99, 100, HUGE),
                                            (-100, -99, 0, 7, 99, 100)):
            yard = many_joints(3)
            if max(abs(a), abs(b)) <= 99 and (a, b) != (0, 0):
                self.assertIsNone(do(yard, (word, "b", a, b)))
                self.assertEqual(self.told(yard, word), ((1, a, b),))
            else:
                self.refused(yard, (word, "b", a, b), NoWay)

    def test_no_joint_ahead_of_no_way(self):
        for word in ("hold", "wall"):
            for way in ((1, 0), (0, 0), (None, 100)):
                self.refused(many_joints(2), (word, "x", *way), NoJoint, name="x")
                self.refused(many_joints(2), (word, "", *way), NoJoint, name="")

    def test_what_is_no_way(self):
        for word, thing in itertools.product(("hold", "wall"), not_whole()):
            self.refused(many_joints(2), (word, "a", thing, 1), NoWay)
            self.refused(many_joints(2), (word, "a", 1, thing), NoWay)

    def test_held(self):
        for word, other in (("hold", "wall"), ("wall", "hold")):
            yard = many_joints(2)
            do(yard, (word, "a", 1, 2))
            self.refused(yard, (word, "a", 1, 2), Held, name="a")
            for deed in ((other, "a", 1, 2), (word, "a", 2, 4), (word, "a", -1, -2), (word, "b", 1, 2)):
                self.assertIsNone(do(yard, deed))
            self.refused(yard, (word, "b", 1, 2), Held, name="b")

    def test_full(self):
        for word, other in (("hold", "wall"), ("wall", "hold")):
            yard = many_joints(2)
            for at in range(6):
                self.assertIsNone(do(yard, (word, "ab"[at % 2], at, 1)))
            self.refused(yard, (word, "a", 50, 50), Full, many=6)
            self.refused(yard, (word, "a", 0, 1), Held, name="a")
            self.refused(yard, (word, "a", 0, 0), NoWay)
            for at in range(6):
                self.assertIsNone(do(yard, (other, "a", at, 1)))
            self.refused(yard, (other, "a", 50, 50), Full, many=6)
            self.assertEqual(len(self.told(yard, word)), 6)
            yard.free("b")
            self.assertIsNone(do(yard, (word, "a", 50, 50)))

    def test_free(self):
        yard = yard_of(DEEDS)
        self.done(yard, ("free", "a"), DEEDS[:6] + DEEDS[8:])
        self.refused(yard, ("free", "a"), NotHeld, name="a")
        self.done(yard, ("free", "b"), DEEDS[:6] + DEEDS[9:])
        self.refused(yard, ("free", "b"), NotHeld, name="b")
        self.refused(yard, ("free", "x"), NoJoint, name="x")
        self.refused(yard, ("free", ""), NoJoint, name="")

    def test_free_lets_go_of_holds_and_walls_of_one_joint(self):
        yard = many_joints(3)
        for word, name in itertools.product(("hold", "wall"), "abc"):
            do(yard, (word, name, 1, 2))
            do(yard, (word, name, 2, 1))
        yard.free("b")
        for stays in yard.rig()[2:]:
            self.assertEqual(stays, ((0, 1, 2), (0, 2, 1), (2, 1, 2), (2, 2, 1)))


class Together(Case):
    def test_all_as_one_deed(self):
        yard = Yard()
        self.assertIsNone(yard.together(list(DEEDS)))
        self.assertTrue(yard == yard_of(DEEDS))
        self.assertEqual(all_told(yard), all_told(yard_of(DEEDS)))
        yard.back()
        self.assertEqual((len(yard), yard.names()), (0, []))
        with self.assertRaises(NothingLeft):
            yard.back()
        yard.again()
        self.assertTrue(yard == yard_of(DEEDS))

    def test_every_word(self):
        deeds = [*DEEDS, ("untie", "a", "b"), ("free", "b"), ("take", "c")]
        self.assertEqual({deed[0] for deed in deeds}, set(WORDS))
        yard = Yard()
        yard.together(deeds)
        self.assertTrue(yard == yard_of(deeds))
        log = [("in", "together")] + [(way, deed[0]) for deed in deeds for way in ("in", "out")] + [("out", "together")]
        self.assertEqual(yard.log(), log)

    def test_none_at_all(self):
        yard = yard_of(DEEDS)
        self.assertIsNone(yard.together([]))
        self.assertEqual(yard.log()[-2:], [("in", "together"), ("out", "together")])
        self.assertTrue(yard == yard_of(DEEDS))

    def test_refused_at_each_place(self):
        more = [("put", "d", 1, 1), ("weigh", "d", 2, 2), ("tie", "d", "a", "rope", 5), ("take", "b")]
        wrong = (
            (("put", "a", 0, 0), Twice), (("put", "e", 0, 1000), NoSpot), (("put", 5, 0, 0), NoName),
            (("shift", "x", 0, 0), NoJoint), (("weigh", "a", None, 0), NoLoad), (("tie", "a", "a", "bar", 5), NoBar),
            (("tie", "a", "c", "iron", 5), NoKind), (("tie", "a", "c", "bar", -5), NoLimit), (("free", "c"), NotHeld),
            (("hold", "a", 1, 0), Held), (("wall", "a", 0, 0), NoWay), (("untie", "a", "x"), NoJoint),
        )
        for at, (deed, error) in itertools.product(range(len(more) + 1), wrong):
            yard = yard_of(DEEDS)
            log = yard.log()
            with self.assertRaises(error):
                yard.together(more[:at] + [deed] + more[at:])
            self.assertTrue(yard == yard_of(DEEDS))
            words = [part[0] for part in more[:at] + [deed]]
            around = [(way, word) for word in words for way in ("in", "out")]
            self.assertEqual(yard.log(), log + [("in", "together"), *around, ("out", "together")])
            yard.back()
            self.assertTrue(yard == yard_of(DEEDS[:-1]))

    def test_the_first_one_refuses(self):
        yard = Yard()
        with self.assertRaises(NoSpot):
            yard.together([("put", "a", 0, 0), ("put", "b", 1000, 0), ("take", "x"), ("put", 5, 5, 5)])

    def test_later_deeds_see_the_earlier_ones(self):
        yard = Yard()
        yard.together([("put", "a", 0, 0), ("take", "a"), ("put", "a", 1, 1), ("shift", "a", 2, 2)])
        self.assertEqual(str(yard), "a(2,2)")

    def no_deeds(self, thing):
        for yard in (Yard(), yard_of(DEEDS)):
            before, log, names = copy.deepcopy(yard), yard.log(), yard.names()
            with self.assertRaises(NoDeed) as caught:
                yard.together(thing)
            self.assertIs(type(caught.exception), NoDeed)
            self.assertEqual(yard.log(), log + [("in", "together"), ("out", "together")])
            self.assertTrue(yard == before)
            self.assertEqual(yard.names(), names)

    def test_what_is_no_list_of_deeds(self):
        for thing in anythings():
            if thing != []:
                self.no_deeds(thing)
            self.no_deeds([thing])
            self.no_deeds([("put", "a", 0, 0), thing])
            self.no_deeds([thing, ("put", "a", 0, 0)])
            self.no_deeds([(thing, "a", 0, 0)])
            self.no_deeds([("put", "a", 0, 0, thing)])
        self.no_deeds(tuple(DEEDS))
        self.no_deeds(())
        self.no_deeds(("put", "a", 0, 0))
        self.no_deeds([list(deed) for deed in DEEDS])
        self.no_deeds([nested(tuple, 9)])

    def test_words(self):
        for word in ("", "Put", "puts", "together", "back", "again", "names", "log", "rig", "do", "keep", "plan", None,
                     True, 1, ["put"], ("put",)):
            self.no_deeds([(word, "a", 0, 0)])
            self.no_deeds([(word,)])
            self.no_deeds([(word, "a")])
            self.no_deeds([(word, [("put", "a", 0, 0)])])

    def test_too_few_or_too_many_things(self):
        deeds = (*DEEDS, ("untie", "a", "b"), ("free", "b"), ("take", "c"))
        for deed in deeds:
            for many in range(len(deed)):
                self.no_deeds([deed[:many]])
            self.no_deeds([(*deed, deed[-1])])
            self.no_deeds([(*deed, None)])
        self.no_deeds([("tie", "a", "b")])
        self.no_deeds([("tie", "a", "b", "rope")])

    def test_names_of_joints_that_are_no_texts(self):
        for thing in (None, True, 0, 5, ["a"], ("a",), [], nested(list, 7)):
            for deed in DEEDS[3:] + (("untie", "a", "b"), ("free", "b"), ("take", "c")):
                self.no_deeds([(deed[0], thing, *deed[2:])])
            for deed in (("tie", "a", thing, "bar", 5), ("untie", "a", thing)):
                self.no_deeds([deed])

    def test_ahead_of_all_else(self):
        self.no_deeds([("put", 5, 0, 0), ("put", "a")])
        self.no_deeds([("take", "x"), ("fly", "a")])
        self.no_deeds([("put", "q", 0, 0), ("put", "q", 0, 0), None])

    def test_the_list_stays_and_is_not_kept(self):
        deeds = [("put", "a", 0, 0), ("put", "b", 1, 1)]
        yard = Yard()
        yard.together(deeds)
        self.assertEqual(deeds, [("put", "a", 0, 0), ("put", "b", 1, 1)])
        deeds.clear()
        yard.back()
        yard.again()
        self.assertEqual(yard.names(), ["a", "b"])


class BackAndAgain(Case):
    def test_to_the_very_first_and_again(self):
        yard = yard_of(DEEDS)
        for at in range(len(DEEDS) - 1, -1, -1):
            self.assertIsNone(yard.back())
            self.assertTrue(yard == yard_of(DEEDS[:at]))
            self.assertEqual(all_told(yard), all_told(yard_of(DEEDS[:at])))
        with self.assertRaises(NothingLeft):
            yard.back()
        for at in range(len(DEEDS)):
            self.assertIsNone(yard.again())
            self.assertTrue(yard == yard_of(DEEDS[:at + 1]))
        with self.assertRaises(NothingLeft) as caught:
            yard.again()
        self.assertIs(type(caught.exception), NothingLeft)
        self.assertTrue(yard == yard_of(DEEDS))

    def test_nothing_left_of_a_new_yard(self):
        yard = Yard()
        for word in ("back", "again"):
            with self.assertRaises(NothingLeft):
                getattr(yard, word)()
        self.assertEqual(yard.log(), [("in", "back"), ("out", "back"), ("in", "again"), ("out", "again")])
        self.assertTrue(yard == Yard())

    def test_again_only_as_long_as_nothing_else_was_done(self):
        for deed in (("put", "d", 0, 0), ("shift", "a", 0, 0), ("weigh", "a", 0, 0)):
            yard = yard_of(DEEDS)
            yard.back()
            do(yard, deed)
            with self.assertRaises(NothingLeft):
                yard.again()
            yard.back()
            yard.back()
            self.assertTrue(yard == yard_of(DEEDS[:-2]))

    def test_what_was_refused_was_not_done(self):
        yard = yard_of(DEEDS)
        yard.back()
        for deed in (("put", "a", 0, 0), ("take", "x"), ("put", 5, 5, 5)):
            with self.assertRaises(RigError):
                do(yard, deed)
            with self.assertRaises(RigError):
                yard.together([("put", "z", 0, 0), deed])
        with self.assertRaises(NoDeed):
            yard.together(None)
        yard.again()
        self.assertTrue(yard == yard_of(DEEDS))

    def test_what_changes_nothing_is_a_deed_too(self):
        yard = yard_of(DEEDS)
        yard.shift("a", 0, 0)
        yard.together([])
        yard.back()
        yard.back()
        self.assertTrue(yard == yard_of(DEEDS))
        yard.back()
        self.assertTrue(yard == yard_of(DEEDS[:-1]))

    def test_hundreds_of_deeds_taken_back_and_done_again(self):
        draw = random.Random(120)
        yard, deeds, told = Yard(), [], [str(Yard())]
        while len(deeds) < 400:
            deed = drawn_deed(draw)
            try:
                do(yard, deed)
            except RigError:
                continue
            deeds.append(deed)
            told.append(str(yard))
        kept = copy.deepcopy(yard)
        for text in reversed(told[:-1]):
            yard.back()
            self.assertEqual(str(yard), text)
        for text in told[1:]:
            yard.again()
            self.assertEqual(str(yard), text)
        self.assertTrue(yard == kept)
        self.assertEqual(len(yard.log()), len(kept.log()) + 4 * 400)


def drawn_deed(draw, names="abcdefg"):
    """A deed that may be refused."""
    word = draw.choice(("put", "put", "shift", "take", "weigh", "weigh", "tie", "tie", "tie", "untie", "hold", "wall",
                        "free"))
    name, other = draw.choice(names), draw.choice(names)
    if word in ("put", "shift", "weigh"):
        return (word, name, draw.randint(-2, 2), draw.randint(-2, 2))
    if word in ("hold", "wall"):
        return (word, name, draw.randint(-1, 1), draw.randint(-1, 1))
    if word == "tie":
        return (word, name, other, draw.choice(("bar", "rope", "prop")), draw.randint(0, 9))
    return (word, name, other) if word == "untie" else (word, name)


class Drawn(Case):
    def test_what_was_taken_back_was_never_done(self):
        draw = random.Random(121)
        counts = [0, 0]
        for _ in range(12):
            yard, done, undone, log = Yard(), [], [], []
            for _ in range(60):
                way = draw.randrange(10)
                deeds = [drawn_deed(draw) for _ in range(draw.randint(1, 3))] if way > 3 else []
                try:
                    if way < 2:
                        log += [("in", "back"), ("out", "back")]
                        yard.back()
                        undone.append(done.pop())
                    elif way < 4:
                        log += [("in", "again"), ("out", "again")]
                        yard.again()
                        done.append(undone.pop())
                    elif way < 8:
                        log += [("in", deeds[0][0]), ("out", deeds[0][0])]
                        do(yard, deeds[0])
                        done.append(deeds[:1])
                        undone = []
                    else:
                        log = None
                        yard.together(deeds)
                        done.append(deeds)
                        undone = []
                    counts[0] += 1
                except RigError:
                    counts[1] += 1
                log = yard.log() if log is None else log
                self.assertEqual(yard.log(), log)
                fresh = yard_of([deed for lot in done for deed in lot])
                self.assertTrue(yard == fresh)
                self.assertEqual(str(yard), str(fresh))
            self.assertEqual(all_told(yard), all_told(fresh))
        self.assertGreater(min(counts), 100)

    def test_what_is_told_is_what_the_functions_tell(self):
        draw = random.Random(122)
        kinds = {}
        for at in range(90):
            yard = yard_of([("put", "a", 0, 0)])
            for _ in range(60):
                deed = drawn_deed(draw, "abcdefg"[:1 + at % 7])
                try:
                    # What takes away is left out, so that some are locked.
                    if deed[0] not in ("take", "untie", "free"):
                        do(yard, deed)
                except RigError:
                    pass
            rig, spots, load, limits = yard.rig(), yard.spots(), yard.load(), yard.limits()
            self.assertIs(is_rig(rig), True)
            self.assertIs(are_spots(rig[0], spots), True)
            self.assertEqual((rig[0][0], len(limits)), (len(yard), len(rig[1])))
            self.assertIs(yard.is_locked(), is_locked(rig, spots))
            self.assertIs(yard.stands(), stands(rig, spots, load))
            self.assertEqual(yard.often(), often(rig, spots, load, limits))
            motion = falling(rig, spots, load) or loosening(rig, spots)
            moved = [] if motion is None else [name for name, pair in zip(yard.names(), motion) if any(pair)]
            self.assertEqual(yard.moved(), moved)
            kind = (yard.is_locked(), yard.stands())
            kinds[kind] = kinds.get(kind, 0) + 1
        self.assertEqual(set(kinds), {(True, True), (False, True), (False, False)})


class Log(Case):
    def test_each_deed_begins_and_ends(self):
        yard = yard_of(DEEDS)
        self.assertEqual(yard.log(), [(way, deed[0]) for deed in DEEDS for way in ("in", "out")])
        self.assertEqual(Yard().log(), [])

    def test_what_is_told_is_not_logged(self):
        yard = yard_of(DEEDS)
        log = yard.log()
        all_told(yard)
        self.assertEqual(yard.log(), log)

    def test_kinds_of_values(self):
        for pair in yard_of(DEEDS).log():
            self.assertEqual((type(pair), len(pair), type(pair[0]), type(pair[1])), (tuple, 2, str, str))


class Told(Case):
    def test_by_hand(self):
        yard = yard_of(DEEDS)
        self.assertEqual(yard.names(), ["a", "b", "c"])
        self.assertEqual(yard.rig(), ((3, ((0, 1), (0, 2), (1, 2))), ("bar", "rope", "prop"),
                                      ((0, 0, 1), (0, 1, 0)), ((1, 0, -1),)))
        self.assertEqual(yard.spots(), ((0, 0), (4, 0), (-1, 3)))
        self.assertEqual(yard.load(), ((0, 0), (0, 0), (5, -6)))
        self.assertEqual(yard.limits(), (100, 50, 7))
        self.assertEqual(len(yard), 3)
        self.assertEqual(str(yard), "a(0,0) b(4,0) c(-1,3) a-b:bar a-c:rope b-c:prop")

    def test_numbered_by_the_names_order(self):
        yard = yard_of([("put", "z", 1, 1), ("put", "ab", 2, 2), ("put", "b", 3, 3), ("put", "aa", 4, 4),
                        ("put", "a", 5, 5), ("tie", "z", "a", "rope", 1), ("tie", "b", "aa", "prop", 2),
                        ("tie", "b", "ab", "bar", 3), ("hold", "z", 1, 0), ("hold", "b", 0, 1), ("weigh", "ab", 7, 8)])
        self.assertEqual(yard.names(), ["a", "aa", "ab", "b", "z"])
        self.assertEqual(yard.spots(), ((5, 5), (4, 4), (2, 2), (3, 3), (1, 1)))
        self.assertEqual(yard.load(), ((0, 0), (0, 0), (7, 8), (0, 0), (0, 0)))
        self.assertEqual(yard.rig(), ((5, ((0, 4), (1, 3), (2, 3))), ("rope", "prop", "bar"),
                                      ((3, 0, 1), (4, 1, 0)), ()))
        self.assertEqual(yard.limits(), (1, 2, 3))
        self.assertEqual(str(yard), "a(5,5) aa(4,4) ab(2,2) b(3,3) z(1,1) a-z:rope aa-b:prop ab-b:bar")

    def test_a_yard_without_joints(self):
        yard = Yard()
        self.assertEqual((yard.names(), yard.log(), len(yard), str(yard)), ([], [], 0, ""))
        emptied = yard_of([*DEEDS, ("take", "a"), ("take", "b"), ("take", "c")])
        undone = yard_of(DEEDS[:1])
        undone.back()
        for empty in (yard, emptied, undone):
            log = empty.log()
            for word in ("rig", "spots", "load", "limits", "is_locked", "stands", "often", "moved"):
                with self.assertRaises(NoJoint) as caught:
                    getattr(empty, word)()
                self.assertIs(type(caught.exception), NoJoint)
                self.assertEqual(caught.exception.name, "")
            self.assertTrue(empty == Yard())
            self.assertEqual(empty.log(), log)

    def test_locked_stands_often_and_moved(self):
        yard = yard_of([("put", "a", 0, 0), ("put", "b", 5, 0), ("tie", "a", "b", "rope", 3), ("hold", "a", 1, 0),
                        ("hold", "a", 0, 1)])
        self.assertEqual((yard.is_locked(), yard.stands(), yard.often(), yard.moved()), (False, True, None, ["b"]))
        yard.weigh("b", 10, 0)
        self.assertEqual((yard.is_locked(), yard.stands(), yard.often(), yard.moved()), (False, True, (3, 2), ["b"]))
        yard.weigh("b", -10, 0)
        self.assertEqual((yard.is_locked(), yard.stands(), yard.often(), yard.moved()), (False, False, (0, 1), ["b"]))
        yard.hold("b", 1, 0)
        yard.hold("b", 0, 1)
        yard.free("a")
        self.assertEqual((yard.is_locked(), yard.stands(), yard.moved()), (False, True, ["a"]))
        yard.hold("a", 1, 1)
        yard.hold("a", 1, 2)
        self.assertEqual((yard.is_locked(), yard.stands(), yard.often(), yard.moved()), (True, True, None, []))

    def test_it_falls_ahead_of_loosening(self):
        # The load lies on b alone, and what falls is b; loose are both.
        yard = yard_of([("put", "a", 0, 0), ("put", "b", 9, 9), ("weigh", "b", 0, 1)])
        self.assertEqual(yard.moved(), ["b"])
        yard.take("b")
        yard.put("b", 9, 9)
        self.assertEqual(len(yard.moved()), 1)

    def test_told_lists_are_the_askers_own(self):
        yard = yard_of(DEEDS)
        for word in ("names", "log", "moved"):
            told = getattr(yard, word)()
            self.assertIs(type(told), list)
            kept = list(told)
            told.append("x")
            told.reverse()
            self.assertEqual(getattr(yard, word)(), kept)
        self.assertTrue(yard == yard_of(DEEDS))
        empty = Yard()
        empty.names().append("x")
        empty.log().append(("in", "x"))
        self.assertEqual((empty.names(), empty.log()), ([], []))
        still = yard_of([("put", "a", 0, 0), ("hold", "a", 1, 0), ("hold", "a", 0, 1)])
        still.moved().append("x")
        self.assertEqual(still.moved(), [])

    def test_what_was_told_stays(self):
        yard = yard_of(DEEDS)
        told = all_told(yard) + [yard.log()]
        kept = copy.deepcopy(told)
        yard.take("a")
        yard.back()
        yard.put("d", 7, 7)
        self.assertEqual(told, kept)


class Equal(Case):
    def test_told_the_same_in_unlike_orders(self):
        draw = random.Random(123)
        for _ in range(20):
            joints = list(DEEDS[:3])
            others = [("tie", *draw.sample(deed[1:3], 2), *deed[3:]) if deed[0] == "tie" else deed
                      for deed in DEEDS[3:]]
            draw.shuffle(joints)
            draw.shuffle(others)
            yard = yard_of(joints + others)
            self.assertIs(yard == yard_of(DEEDS), True)
            self.assertIs(yard != yard_of(DEEDS), False)
            self.assertEqual(all_told(yard), all_told(yard_of(DEEDS)))

    def test_the_log_and_what_was_taken_back_make_no_difference(self):
        yard = yard_of(DEEDS)
        yard.take("a")
        yard.back()
        self.assertIs(yard == yard_of(DEEDS), True)
        self.assertIs(Yard() == yard_of([("put", "a", 0, 0), ("take", "a")]), True)

    def test_each_difference_counts(self):
        whole = [*DEEDS]
        changes = (
            ("put", "d", 0, 0), ("shift", "a", 1, 0), ("weigh", "c", 5, -5), ("weigh", "a", 1, 0), ("untie", "a", "b"),
            ("hold", "c", 1, 0), ("wall", "c", 1, 0), ("free", "a"), ("free", "b"), ("take", "c"),
        )
        for change in changes:
            self.assertIs(yard_of(whole) == yard_of([*whole, change]), False)
            self.assertIs(yard_of([*whole, change]) == yard_of(whole), False)
            self.assertIs(yard_of(whole) != yard_of([*whole, change]), True)
        for tied in (("tie", "a", "b", "rope", 100), ("tie", "a", "b", "prop", 100), ("tie", "a", "b", "bar", 99)):
            self.assertIs(yard_of(whole) == yard_of([*DEEDS[:3], tied, *DEEDS[4:]]), False)
        for joint in (("put", "b", 4, 1), ("put", "e", 4, 0)):
            self.assertIs(yard_of([DEEDS[0], DEEDS[1]]) == yard_of([DEEDS[0], joint]), False)
        hold, wall = [("put", "a", 0, 0), ("hold", "a", 1, 0)], [("put", "a", 0, 0), ("wall", "a", 1, 0)]
        self.assertIs(yard_of(hold) == yard_of(wall), False)

    def test_equal_to_nothing_else(self):
        yard = yard_of(DEEDS)
        for thing in [*anythings(), str(yard), yard.names(), yard.rig(), {}, object()]:
            self.assertIs(yard == thing, False)
            self.assertIs(thing == yard, False)
            self.assertIs(yard != thing, True)
            self.assertIs(Yard() == thing, False)


class ByName(Case):
    def test_names_in_another_order(self):
        yard = Yard()
        yard.put(y=2, name="a", x=1)
        yard.put(x=5, y=6, name="b")
        yard.shift(y=4, x=3, name="a")
        yard.weigh(y=8, x=7, name="b")
        yard.tie(limit=5, other="a", kind="rope", one="b")
        yard.hold(b=2, a=1, name="a")
        yard.wall(b=4, a=3, name="b")
        self.assertTrue(yard == yard_of([
            ("put", "a", 3, 4), ("put", "b", 5, 6), ("weigh", "b", 7, 8), ("tie", "a", "b", "rope", 5),
            ("hold", "a", 1, 2), ("wall", "b", 3, 4),
        ]))
        yard.untie(other="a", one="b")
        yard.free(name="a")
        yard.take(name="b")
        yard.together(deeds=[("weigh", "a", 1, 1)])
        self.assertTrue(yard == yard_of([("put", "a", 3, 4), ("weigh", "a", 1, 1)]))

    def test_kind_and_limit_by_their_names_alone(self):
        yard = many_joints(2)
        with self.assertRaises(TypeError):
            yard.tie("a", "b", "rope")
        self.assertEqual(yard.limits(), ())

    def test_methods_stand_in_the_class_itself(self):
        for word in (*WORDS, "together", "back", "again", "names", "log", "moved", "rig", "spots", "load", "limits",
                     "is_locked", "stands", "often", "__len__", "__str__", "__eq__"):
            self.assertIn(word, vars(Yard))


if __name__ == "__main__":
    unittest.main()
