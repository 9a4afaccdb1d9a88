"""Limits: how often a load is borne at most, by weights within the limits, and by a motion."""

import copy
import itertools
import math
import random
import unittest
from fractions import Fraction

from stayfast.limits import giving, is_within, often, shows, within
from stayfast.loads import stands
from stayfast.rigs import is_force
from tests.anything import anythings, plain_things, wrong_kinds, wrong_lengths
from tests.drawn import HUGE, drawn_pairs, pairs_of
from tests.rigged import (
    KINDS, bearable, done, drawn_limits, drawn_loads, drawn_rigs, force_so_often, forced, given_way, held,
    largest_rigs, let_by_stays, like_rigs, pairs_numbered_otherwise, rig_numbered_otherwise, so_often, spoilt,
)

POINT = ((1, ()), (), (), ())
ROPE = ((2, ((0, 1),)), ("rope",), held(0), ())
FLAT = ((0, 0), (5, 0))


def drawn_cases(seed, count):
    """Drawn rigs with spots, a load and limits."""
    draw = random.Random(seed)
    cases = []
    for rig, spots in drawn_rigs(seed, count):
        cases += [(rig, spots, load, drawn_limits(draw, rig)) for load in drawn_loads(draw, rig, spots)[1:]]
    return cases


def as_number(told):
    """How often, as a number that can be compared."""
    return math.inf if told is None else Fraction(*told)


class Case(unittest.TestCase):
    def told(self, rig, spots, load, limits):
        """How often the load is borne, where all that is told of it agrees."""
        case = (rig, spots, load, limits)
        fraction, thing, motion = often(*case), within(*case), giving(*case)
        if fraction is None:
            self.assertIsNone(thing)
            self.assertIsNone(motion)
            self.assertIs(is_within(*case, thing), False)
            # By pushes and shoves alone the load is borne.
            self.assertIs(stands(((rig[0][0], ()), (), *rig[2:]), spots, load), True)
            return None
        self.assertEqual((type(fraction), type(thing), type(motion)), (tuple, tuple, tuple))
        top, bottom = fraction
        self.assertEqual((type(top), type(bottom)), (int, int))
        self.assertGreaterEqual(top, 0)
        self.assertGreaterEqual(bottom, 1)
        self.assertEqual(math.gcd(top, bottom), 1)
        count, force = thing[0], thing[3]
        self.assertEqual(thing[1:3], fraction)
        self.assertIs(type(count), int)
        self.assertGreaterEqual(count, 1)
        self.assertIs(is_force(rig, force), True)
        self.assertEqual(forced(rig, spots, force), so_often(count * top, load))
        for weight, limit in zip(force[0], limits):
            self.assertLessEqual(abs(weight), count * bottom * limit)
        self.assertIs(is_within(*case, thing), True)
        self.assertTrue(let_by_stays(rig, motion))
        self.assertGreater(done(load, motion), 0)
        self.assertEqual(top * done(load, motion), bottom * given_way(rig, spots, limits, motion))
        self.assertEqual(shows(*case, motion), fraction)
        return fraction


class KnownRigs(Case):
    def often(self, rig, spots, load, limits, fraction):
        self.assertEqual(self.told(rig, spots, load, limits), fraction)

    def test_a_joint_with_no_member(self):
        self.often(POINT, ((3, 4),), ((0, 0),), (), None)
        self.often(POINT, ((3, 4),), ((1, 0),), (), (0, 1))
        self.often(POINT, ((3, 4),), ((-HUGE, HUGE),), (), (0, 1))

    def test_a_joint_on_one_rope(self):
        self.often(ROPE, FLAT, ((0, 0), (1, 0)), (3,), (15, 1))
        self.often(ROPE, FLAT, ((7, 8), (1, 0)), (3,), (15, 1))
        self.often(ROPE, FLAT, ((0, 0), (7, 0)), (3,), (15, 7))
        self.often(ROPE, FLAT, ((0, 0), (10, 0)), (3,), (3, 2))
        self.often(ROPE, FLAT, ((0, 0), (HUGE, 0)), (999,), Fraction(4995, HUGE).as_integer_ratio())
        self.often(ROPE, FLAT, ((0, 0), (-1, 0)), (3,), (0, 1))
        self.often(ROPE, FLAT, ((0, 0), (1, 1)), (3,), (0, 1))
        self.often(ROPE, FLAT, ((0, 0), (1, 0)), (0,), (0, 1))
        self.often(ROPE, FLAT, ((0, 0), (1, 0)), (999,), (4995, 1))
        self.often(ROPE, FLAT, ((5, 5), (0, 0)), (3,), None)
        self.often(ROPE, ((0, 0), (3, -4)), ((0, 0), (3, -4)), (3,), (3, 1))

    def test_a_joint_on_one_prop_and_on_one_bar(self):
        for kind, pulled, pushed in (("rope", 15, 0), ("prop", 0, 15), ("bar", 15, 15)):
            rig = (ROPE[0], (kind,), *ROPE[2:])
            self.often(rig, FLAT, ((0, 0), (1, 0)), (3,), (pulled, 1))
            self.often(rig, FLAT, ((0, 0), (-1, 0)), (3,), (pushed, 1))

    def test_a_joint_on_two_ropes_in_one_line(self):
        rig = ((3, ((0, 2), (1, 2))), ("rope", "rope"), held(0, 1), ())
        spots = ((0, 0), (2, 0), (5, 0))
        self.often(rig, spots, ((0, 0), (0, 0), (1, 0)), (3, 4), (15 + 12, 1))
        self.often(rig, spots, ((0, 0), (0, 0), (6, 0)), (3, 4), (9, 2))
        self.often(rig, spots, ((0, 0), (0, 0), (1, 0)), (0, 4), (12, 1))
        self.often(rig, spots, ((0, 0), (0, 0), (-1, 0)), (3, 4), (0, 1))

    def test_a_joint_between_a_rope_and_a_prop(self):
        rig = ((3, ((0, 2), (1, 2))), ("rope", "prop"), held(0, 1), ())
        spots = ((-3, 0), (5, 0), (0, 0))
        self.often(rig, spots, ((0, 0), (0, 0), (1, 0)), (4, 7), (12 + 35, 1))
        self.often(rig, spots, ((0, 0), (0, 0), (10, 0)), (4, 7), (47, 10))
        self.often(rig, spots, ((0, 0), (0, 0), (-1, 0)), (4, 7), (0, 1))
        ropes = (rig[0], ("rope", "rope"), *rig[2:])
        self.often(ropes, spots, ((0, 0), (0, 0), (1, 0)), (4, 7), (12, 1))
        self.often(ropes, spots, ((0, 0), (0, 0), (-1, 0)), (4, 7), (35, 1))

    def test_a_joint_on_two_bars_that_lean(self):
        rig = ((3, ((0, 2), (1, 2))), ("bar", "bar"), held(0, 1), ())
        spots = ((-3, 0), (3, 0), (0, 4))
        for limits in ((5, 5), (5, 8), (9, 5)):
            # Down, both bear alike, 4 each; across, one is pulled by as much as the other one is pushed, 3 each.
            self.often(rig, spots, ((0, 0), (0, 0), (0, -1)), limits, (40, 1))
            self.often(rig, spots, ((0, 0), (0, 0), (0, 3)), limits, (40, 3))
            self.often(rig, spots, ((0, 0), (0, 0), (1, 0)), limits, (30, 1))
        # Along one bar the other bears nothing.
        self.often(rig, spots, ((0, 0), (0, 0), (3, 4)), (7, 0), (7, 1))
        self.often(rig, spots, ((0, 0), (0, 0), (3, 4)), (0, 7), (0, 1))
        ropes = (rig[0], ("rope", "rope"), *rig[2:])
        self.often(ropes, spots, ((0, 0), (0, 0), (0, 1)), (5, 8), (40, 1))
        self.often(ropes, spots, ((0, 0), (0, 0), (0, -1)), (5, 8), (0, 1))

    def test_a_joint_against_a_wall(self):
        rig = ((1, ()), (), (), ((0, 3, 4),))
        self.often(rig, ((0, 0),), ((3, 4),), (), None)
        self.often(rig, ((0, 0),), ((-3, -4),), (), (0, 1))
        self.often(rig, ((0, 0),), ((4, -3),), (), (0, 1))
        both = ((2, ((0, 1),)), ("rope",), held(0), ((1, 0, -1),))
        self.often(both, FLAT, ((0, 0), (2, -5)), (3,), (15, 2))
        self.often(both, FLAT, ((0, 0), (0, -5)), (3,), None)
        self.often(both, FLAT, ((0, 0), (2, 5)), (3,), (0, 1))

    def test_bars_that_share(self):
        # A square with both ways across: pushed sideways one is pulled and the other one pushed.
        frame = (4, pairs_of(4))
        spots = ((0, 0), (4, 0), (4, 3), (0, 3))
        load = ((0, 0), (0, 0), (0, 0), (1, 0))
        holds = ((0, 0, 1), (0, 1, 0), (1, 0, 1))
        for one, other, top in (("bar", "bar", 56), ("rope", "prop", 56), ("rope", "bar", 56), ("prop", "rope", 0),
                                ("rope", "rope", 28), ("prop", "prop", 28)):
            rig = (frame, ("bar", one, "bar", "bar", other, "bar"), holds, ())
            self.often(rig, spots, load, (999, 7, 999, 999, 7, 999), (top, 1))

    def test_members_of_no_length(self):
        rig = ((2, ((0, 1),)), ("bar",), held(0), ())
        self.often(rig, ((7, 7), (7, 7)), ((1, 2), (0, 0)), (9,), None)
        self.often(rig, ((7, 7), (7, 7)), ((0, 0), (1, 0)), (999,), (0, 1))

    def test_the_edges_of_the_field(self):
        spots = ((-999, -999), (999, 999))
        self.often(ROPE, spots, ((0, 0), (1, 1)), (999,), (1998 * 999, 1))
        self.often(ROPE, spots, ((0, 0), (HUGE, HUGE)), (999,), Fraction(1998 * 999, HUGE).as_integer_ratio())


class Drawn(Case):
    def test_all_that_is_told_agrees(self):
        counts = {}
        for case in drawn_cases(100, 100):
            told = self.told(*case)
            kind = "ever" if told is None else "never" if told[0] == 0 else "often"
            counts[kind] = counts.get(kind, 0) + 1
        self.assertEqual(len(counts), 3)
        self.assertGreater(min(counts.values()), 40)

    def test_the_largest_rigs(self):
        draw = random.Random(101)
        for rig, spots in largest_rigs(101, 5):
            for load in drawn_loads(draw, rig, spots):
                self.told(rig, spots, load, drawn_limits(draw, rig))

    def test_the_largest_rigs_of_bars_alone_without_walls(self):
        draw = random.Random(102)
        tops = 0
        for (frame, kinds, holds, walls), spots in largest_rigs(102, 4):
            for rig in ((frame, ("bar",) * 15, holds[:3], ()), (frame, ("bar",) * 15, (), ())):
                for load in drawn_loads(draw, rig, spots):
                    told = self.told(rig, spots, load, drawn_limits(draw, rig))
                    tops += told is not None and told[0] > 0
        self.assertGreater(tops, 5)

    def test_what_stands_is_borne_some_times_where_no_limit_is_nought(self):
        counts = [0, 0]
        for rig, spots, load, limits in drawn_cases(103, 60):
            told = often(rig, spots, load, tuple([limit + 1 for limit in limits]))
            stood = stands(rig, spots, load)
            self.assertIs(told is None or told[0] > 0, stood)
            counts[stood] += 1
        self.assertGreater(min(counts), 50)

    def test_limits_and_loads_taken_so_many_times(self):
        count = 0
        for rig, spots, load, limits in drawn_cases(104, 40):
            few = tuple([limit // 9 for limit in limits])
            told = as_number(often(rig, spots, load, few))
            count += 0 < told < math.inf
            for many in (2, 9):
                more = tuple([many * limit for limit in few])
                self.assertEqual(as_number(often(rig, spots, load, more)), many * told if told else 0)
                self.assertEqual(as_number(often(rig, spots, so_often(many, load), few)), told / many)
        self.assertGreater(count, 20)

    def test_more_limits_never_less_often(self):
        draw = random.Random(105)
        greater = 0
        for rig, spots, load, limits in drawn_cases(105, 60):
            more = tuple([min(999, limit + draw.randint(0, 50)) for limit in limits])
            told, other = as_number(often(rig, spots, load, limits)), as_number(often(rig, spots, load, more))
            self.assertLessEqual(told, other)
            greater += told < other
        self.assertGreater(greater, 20)

    def test_more_members_never_less_often(self):
        draw = random.Random(106)
        greater = 0
        for rig, spots, load, limits in drawn_cases(106, 60):
            (many, bars), kinds, holds, walls = rig
            told = as_number(often(rig, spots, load, limits))
            gone = [pair for pair in pairs_of(many) if pair not in bars]
            if gone:
                one_more = (draw.choice(gone), draw.choice(KINDS), draw.randint(0, 999))
                rows = sorted([*zip(bars, kinds, limits), one_more])
                frame = (many, tuple([bar for bar, _, _ in rows]))
                more = (frame, tuple([kind for _, kind, _ in rows]), holds, walls)
                other = as_number(often(more, spots, load, tuple([limit for _, _, limit in rows])))
                self.assertLessEqual(told, other)
                greater += told < other
            for stays in ((holds, tuple(sorted({*walls, (0, 1, 2)}))), (tuple(sorted({*holds, (0, 1, 2)})), walls)):
                if max([len(these) for these in stays]) <= 6:
                    other = as_number(often((rig[0], kinds, *stays), spots, load, limits))
                    self.assertLessEqual(told, other)
            bars_for_all = (rig[0], ("bar",) * len(kinds), holds, walls)
            self.assertLessEqual(told, as_number(often(bars_for_all, spots, load, limits)))
        self.assertGreater(greater, 5)

    def test_limits_of_nought(self):
        counts = [0, 0]
        for rig, spots, load, limits in drawn_cases(107, 60):
            alone = stands(((rig[0][0], ()), (), *rig[2:]), spots, load)
            self.assertEqual(often(rig, spots, load, (0,) * len(limits)), None if alone else (0, 1))
            counts[alone] += 1
        self.assertGreater(min(counts), 20)

    def test_loads_of_noughts(self):
        for rig, spots, load, limits in drawn_cases(108, 10):
            self.assertIsNone(self.told(rig, spots, so_often(0, load), limits))

    def test_what_was_handed_in_stays_and_names_in_another_order(self):
        for rig, spots, load, limits in drawn_cases(109, 8):
            before = copy.deepcopy((rig, spots, load, limits))
            for ask in (often, within, giving):
                told = ask(rig, spots, load, limits)
                self.assertEqual(ask(rig, spots, load, limits), told)
                self.assertEqual(ask(limits=limits, load=load, spots=spots, rig=rig), told)
            thing = within(rig, spots, load, limits)
            self.assertIs(is_within(thing=thing, limits=limits, spots=spots, load=load, rig=rig), thing is not None)
            motion = giving(rig, spots, load, limits)
            self.assertEqual(shows(thing=motion, limits=limits, spots=spots, load=load, rig=rig),
                             often(rig, spots, load, limits))
            self.assertEqual((rig, spots, load, limits), before)


class ToldAlike(unittest.TestCase):
    def test_put_elsewhere_turned_mirrored_made_greater(self):
        for rig, far, load, limits in drawn_cases(110, 25):
            spots = tuple([(x // 11, y // 11) for x, y in far])
            told = as_number(often(rig, spots, load, limits))
            elsewhere, greater, *others = like_rigs(rig, spots, load)
            for like, changed, weighed in (elsewhere, *others):
                self.assertEqual(as_number(often(like, changed, weighed, limits)), told)
            # Weights are taken times the spots, so what is ten times as great bears ten times as often.
            self.assertEqual(as_number(often(greater[0], greater[1], greater[2], limits)), 10 * told if told else 0)

    def test_numbered_otherwise(self):
        draw = random.Random(111)
        for rig, spots, load, limits in drawn_cases(111, 25):
            order = draw.sample(range(len(spots)), len(spots))
            renamed, was = rig_numbered_otherwise(rig, order)
            moved, weighed = pairs_numbered_otherwise(spots, order), pairs_numbered_otherwise(load, order)
            self.assertEqual(often(renamed, moved, weighed, tuple([limits[at] for at in was])),
                             often(rig, spots, load, limits))


class IsWithin(unittest.TestCase):
    # The joint 1 on a rope pulled, the wall below it pushed.
    RIG = ((2, ((0, 1),)), ("rope",), held(0), ((1, 0, -1),))
    CASE = (RIG, FLAT, ((0, 0), (2, -5)), (3,))
    THING = (1, 15, 2, ((6,), (0, 30), (75,)))

    def no(self, thing):
        self.assertIs(is_within(*self.CASE, thing), False, thing)

    def test_by_hand(self):
        self.assertIs(is_within(*self.CASE, self.THING), True)
        self.assertIs(is_within(*self.CASE, (HUGE, 15, 2, force_so_often(HUGE, self.THING[3]))), True)

    def test_fewer_times_is_not_the_most(self):
        self.no((1, 14, 2, ((28,), (0, 28), (70,))))
        self.no((1, 7, 1, ((2,), (0, 10), (35,))))
        self.no((1, 0, 1, ((0,), (0, 0), (0,))))

    def test_not_in_lowest_terms(self):
        self.no((1, 30, 4, ((12,), (0, 60), (150,))))
        self.no((1, 15, 4, ((6,), (0, 30), (75,))))

    def test_counts(self):
        for count in (-HUGE, -1, 0, 1, 2, HUGE):
            self.assertIs(is_within(*self.CASE, (count, 15, 2, force_so_often(count, self.THING[3]))), count > 0)
        case = (POINT, ((0, 0),), ((1, 0),), ())
        for count in (-1, 0, 1, 2, HUGE):
            self.assertIs(is_within(*case, (count, 0, 1, ((), (), ()))), count > 0)

    def test_beyond_the_limits(self):
        # The rope 0, 1 and the bar 0, 2 bear one load in one line; the rope alone can't within its limit.
        rig = ((3, ((0, 2), (1, 2))), ("rope", "bar"), held(0, 1), ())
        case = (rig, ((0, 0), (0, 0), (1, 0)), ((0, 0), (0, 0), (1, 0)), (3, 4))
        for one, other in itertools.product(range(-9, 16), repeat=2):
            right = (one, other) == (3, 4)
            force = ((one, other), (0, one, 0, other), ())
            self.assertIs(is_within(*case, (1, 7, 1, force)), right)
        self.assertIs(is_within(*case, (2, 7, 1, ((6, 8), (0, 6, 0, 8), ()))), True)
        self.assertIs(is_within(*case, (2, 7, 1, ((7, 7), (0, 7, 0, 7), ()))), False)

    def test_of_what_has_no_greatest(self):
        case = (self.RIG, FLAT, ((0, 0), (0, -5)), (3,))
        for thing in (None, self.THING, (1, 1, 1, ((0,), (0, 0), (5,))), (1, 0, 1, ((0,), (0, 0), (0,))),
                      (1, None, None, ((0,), (0, 0), (0,))), (1, 1, 0, ((0,), (0, 0), (5,)))):
            self.assertIs(is_within(*case, thing), False)

    def test_what_is_told_spoilt_is_right_just_where_the_document_says(self):
        counts = [0, 0]
        for rig, spots, load, limits in drawn_cases(112, 10):
            told = within(rig, spots, load, limits)
            for thing in () if told is None else spoilt(told):
                count, top, bottom, force = thing
                right = count > 0 and (top, bottom) == told[1:3] and bearable(rig, force) and all(
                    [abs(weight) <= count * bottom * limit for weight, limit in zip(force[0], limits)])
                right = right and forced(rig, spots, force) == so_often(count * top, load)
                self.assertIs(is_within(rig, spots, load, limits, thing), right)
                counts[right] += 1
        self.assertGreater(min(counts), 20)

    def test_wrong_kinds_at_each_place(self):
        for thing in wrong_kinds(self.THING):
            self.no(thing)
        case = (POINT, ((0, 0),), ((1, 0),), ())
        self.assertIs(is_within(*case, (1, 0, 1, ((), (), ()))), True)
        for thing in wrong_kinds((1, 0, 1, ((), (), ()))):
            self.assertIs(is_within(*case, thing), False)

    def test_too_short_or_too_long(self):
        for thing in wrong_lengths(self.THING):
            self.no(thing)
        for at in range(3):
            for part in wrong_lengths(self.THING[3][at]):
                force = self.THING[3][:at] + (part,) + self.THING[3][at + 1:]
                self.no((*self.THING[:3], force))

    def test_anything(self):
        for thing in anythings():
            self.no(thing)
            self.no((1, 15, 2, thing))
        for thing in plain_things():
            for at in range(3):
                if isinstance(thing, bool) or thing != self.THING[at]:
                    self.no(self.THING[:at] + (thing,) + self.THING[at + 1:])


class Shows(unittest.TestCase):
    RIG = ((3, ((0, 2), (1, 2))), ("rope", "prop"), held(0, 1), ((2, 0, -1),))
    SPOTS = ((-3, 0), (5, 0), (0, 0))
    CASE = (RIG, SPOTS, ((0, 0), (0, 0), (10, 2)), (4, 7))

    def test_by_hand(self):
        for motion, told in (((1, 0), (47, 10)), ((1, 3), (47, 16)), ((0, 1), (0, 1)), ((2, 0), (47, 10))):
            self.assertEqual(shows(*self.CASE, ((0, 0), (0, 0), motion)), told)
        for motion in ((-1, 0), (0, -1), (5, -1), (0, 0), (-1, 5)):
            self.assertIsNone(shows(*self.CASE, ((0, 0), (0, 0), motion)))
        self.assertIsNone(shows(*self.CASE, ((1, 0), (0, 0), (1, 0))))
        self.assertIsNone(shows(*self.CASE, ((0, 0), (0, 1), (1, 0))))

    def test_what_each_kind_gives(self):
        for kind, grown in itertools.product(KINDS, (-2, -1, 0, 1, 2)):
            rig = (ROPE[0], (kind,), held(0), ())
            told = shows(rig, FLAT, ((0, 0), (0, 1)), (3,), ((0, 0), (grown, 1)))
            gives = {"bar": abs(grown), "rope": max(0, grown), "prop": max(0, -grown)}[kind]
            self.assertEqual(told, (15 * gives, 1))

    def test_no_motion_shows_fewer_times_than_is_told(self):
        draw = random.Random(113)
        counts = [0, 0]
        for rig, spots, load, limits in drawn_cases(113, 60):
            told = as_number(often(rig, spots, load, limits))
            motions = [drawn_pairs(draw, len(spots), far) for far in (1, 9)]
            for motion in (giving(rig, spots, load, limits), load, so_often(-1, load), *motions):
                shown = shows(rig, spots, load, limits, motion)
                counts[shown is None] += 1
                if shown is not None:
                    self.assertGreaterEqual(Fraction(*shown), told)
        self.assertGreater(min(counts), 100)

    def test_a_second_reckoning(self):
        draw = random.Random(114)
        count = 0
        for rig, spots, load, limits in drawn_cases(114, 60):
            for motion in (drawn_pairs(draw, len(spots), 1), drawn_pairs(draw, len(spots), HUGE), load):
                shown = shows(rig, spots, load, limits, motion)
                work = done(load, motion)
                if not let_by_stays(rig, motion) or work <= 0:
                    self.assertIsNone(shown)
                else:
                    fraction = Fraction(given_way(rig, spots, limits, motion), work)
                    self.assertEqual(shown, (fraction.numerator, fraction.denominator))
                    self.assertEqual((type(shown), type(shown[0]), type(shown[1])), (tuple, int, int))
                    count += 1
        self.assertGreater(count, 30)

    def test_motions_so_many_times_turned_about_and_of_noughts(self):
        count = 0
        for rig, spots, load, limits in drawn_cases(115, 25):
            motion = giving(rig, spots, load, limits)
            self.assertIsNone(shows(rig, spots, load, limits, ((0, 0),) * len(spots)))
            if motion is not None:
                count += 1
                told = often(rig, spots, load, limits)
                for many in (2, 9, HUGE):
                    self.assertEqual(shows(rig, spots, load, limits, so_often(many, motion)), told)
                self.assertIsNone(shows(rig, spots, load, limits, so_often(-1, motion)))
        self.assertGreater(count, 40)

    def test_wrong_kinds_at_each_place(self):
        for thing in wrong_kinds(((0, 0), (0, 0), (1, 0))):
            self.assertIsNone(shows(*self.CASE, thing))

    def test_too_short_or_too_long(self):
        for thing in wrong_lengths(((0, 0), (0, 0), (1, 0))):
            self.assertIsNone(shows(*self.CASE, thing))
        self.assertIsNone(shows(*self.CASE, ((0, 0), (0, 0), (1, 0, 0))))
        self.assertIsNone(shows(*self.CASE, ((0, 0), (0, 0), (1,))))

    def test_anything(self):
        for thing in anythings():
            self.assertIsNone(shows(*self.CASE, thing))
            self.assertIsNone(shows(POINT, ((0, 0),), ((1, 0),), (), thing))
            self.assertIsNone(shows(*self.CASE, ((0, 0), (0, 0), thing)))

    def test_what_is_asked_about_stays(self):
        thing = [[0, 0], (0, 0), [1, 0]]
        shows(*self.CASE, thing)
        is_within(*self.CASE, thing)
        self.assertEqual(thing, [[0, 0], (0, 0), [1, 0]])


if __name__ == "__main__":
    unittest.main()
