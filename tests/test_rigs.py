"""Rigs: what is one, which motions go, which forces there are, and what they come to."""

import copy
import itertools
import random
import unittest

from stayfast.motions import moves
from stayfast.rigs import comes_to, goes, is_force, is_rig
from tests.anything import anythings, nested, plain_things, wrong_kinds, wrong_lengths
from tests.drawn import HUGE, come_to, drawn_cases, drawn_pairs, growth, pairs_of
from tests.rigged import KINDS, SIX_STAYS, drawn_force, drawn_rigs, let_go

TRIANGLE = (3, ((0, 1), (0, 2), (1, 2)))
SPOTS = ((0, 0), (4, 0), (0, 3))
RIG = (TRIANGLE, KINDS, ((0, 0, 1), (0, 1, 0), (1, 0, 1)), ((1, 1, 0), (2, -3, 4)))
FORCE = ((0, 1, -1), (1, 0, -5), (0, 1))
POINT = ((1, ()), (), (), ())
SEVEN_STAYS = tuple([(0, at, 1) for at in range(7)])


class IsRig(unittest.TestCase):
    def yes(self, thing):
        self.assertIs(is_rig(thing), True, thing)

    def no(self, thing):
        self.assertIs(is_rig(thing), False, thing)

    def test_ordinary_rigs(self):
        self.yes(RIG)
        self.yes(POINT)
        self.yes(((6, pairs_of(6)), KINDS * 5, SIX_STAYS, SIX_STAYS))
        for rig, _ in drawn_rigs(40, 100):
            self.yes(rig)

    def test_every_three_kinds(self):
        for kinds in itertools.product(KINDS, repeat=3):
            self.yes((TRIANGLE, kinds, (), ()))
        for kind in ("", "Bar", "bars", "ropes", "hold", "wall", "bar ", "barrope", "ba", "r", "prop\n"):
            for at in range(3):
                self.no((TRIANGLE, KINDS[:at] + (kind,) + KINDS[at + 1:], (), ()))

    def test_a_kind_for_each_bar(self):
        for bars, many in itertools.product(range(7), range(9)):
            self.assertIs(is_rig(((4, pairs_of(4)[:bars]), ("rope",) * many, (), ())), many == bars)
        self.no((TRIANGLE, "bar", (), ()))
        self.no((TRIANGLE, ("bar", ("rope", "prop")), (), ()))

    def test_what_is_no_frame(self):
        for frame in ((0, ()), (7, ()), (2, ((1, 0),)), (3, ((0, 2), (0, 1))), (2, ((0, 2),)), [1, ()], (1, []), (1,)):
            self.no((frame, (), (), ()))
            self.no((frame, ("bar",), (), ()))
            self.no((frame, ("bar", "bar"), (), ()))

    def test_at_most_six_holds_and_six_walls(self):
        for many in range(8):
            stays = SEVEN_STAYS[:many]
            self.assertIs(is_rig(((1, ()), (), stays, ())), many <= 6)
            self.assertIs(is_rig(((1, ()), (), (), stays)), many <= 6)
            self.assertIs(is_rig(((1, ()), (), stays, SIX_STAYS)), many <= 6)
            self.assertIs(is_rig(((1, ()), (), SIX_STAYS, stays)), many <= 6)

    def stays(self, many, stays, right):
        """The stays are right, or not, as holds and as walls."""
        self.assertIs(is_rig(((many, ()), (), stays, ())), right, stays)
        self.assertIs(is_rig(((many, ()), (), (), stays)), right, stays)
        self.assertIs(is_rig(((many, ()), (), stays, SIX_STAYS)), right, stays)

    def test_ways(self):
        numbers = (-HUGE, -100, -99, -98, -1, 0, 1, 98, 99, 100, HUGE)
        for a, b in itertools.product(numbers, repeat=2):
            right = -99 <= a <= 99 and -99 <= b <= 99 and (a, b) != (0, 0)
            self.stays(1, ((0, a, b),), right)
            self.stays(2, ((0, 5, 5), (1, a, b)), right)

    def test_joints_of_holds_and_walls(self):
        for many, joint in itertools.product(range(1, 7), (-HUGE, -6, -1, 0, 1, 2, 3, 4, 5, 6, 7, HUGE)):
            self.stays(many, ((joint, 1, 0),), 0 <= joint < many)

    def test_rising(self):
        stays = ((0, -1, 5), (0, 1, -5), (0, 1, 4), (2, -9, 0))
        for order in itertools.permutations(stays):
            self.stays(3, order, order == stays)

    def test_a_hold_twice(self):
        self.stays(1, ((0, 1, 2), (0, 1, 2)), False)
        self.stays(2, ((0, 1, 2), (1, 1, 2), (1, 1, 2)), False)
        self.stays(2, ((0, 1, 2), (1, 1, 2), (0, 1, 2)), False)
        self.stays(1, ((0, 1, 2), (0, 2, 4)), True)
        self.stays(1, ((0, -1, -2), (0, 1, 2)), True)
        self.yes(((1, ()), (), ((0, 1, 2),), ((0, 1, 2),)))

    def test_stays_too_short_or_too_long(self):
        for stay in ((), (0,), (0, 1), (0, 1, 2, 3), (0, (1, 2)), ((0, 1, 2),)):
            self.stays(1, (stay,), False)
        self.stays(1, (0, 1, 2), False)

    def test_tuples_too_short_or_too_long(self):
        for rig in (RIG, POINT):
            for thing in wrong_lengths(rig):
                self.no(thing)

    def test_wrong_kinds_at_each_place(self):
        for rig in (RIG, POINT, ((2, ((0, 1),)), ("rope",), ((0, 0, 1), (1, 1, 0)), ((1, 1, 1),))):
            self.yes(rig)
            for thing in wrong_kinds(rig):
                self.no(thing)

    def test_anything(self):
        for thing in anythings():
            self.no(thing)
            self.no((thing, (), (), ()))
            self.no((TRIANGLE, thing, (), ()))
            self.no((TRIANGLE, ("bar", "rope", thing), (), ()))
            self.no((TRIANGLE, KINDS, thing, ()))
            self.no((TRIANGLE, KINDS, (), thing))
            self.no((TRIANGLE, KINDS, ((0, 1, 1), thing), ()))
            self.no((TRIANGLE, KINDS, (), (thing, (0, 1, 1))))
            self.no((TRIANGLE, KINDS, (), ((0, thing, (1,)),)))
        self.no(nested(tuple, 10))

    def test_what_is_asked_about_stays(self):
        thing = [TRIANGLE, ["bar"], [[0, 1, 1]], None]
        before = copy.deepcopy(thing)
        is_rig(thing)
        is_rig((TRIANGLE, KINDS, thing, ()))
        is_rig((TRIANGLE, KINDS, (thing,), ()))
        self.assertEqual(thing, before)

    def test_by_name(self):
        self.assertIs(is_rig(thing=RIG), True)
        self.assertIs(is_rig(thing=TRIANGLE), False)


class Goes(unittest.TestCase):
    def yes(self, rig, spots, thing):
        self.assertIs(goes(rig, spots, thing), True, (rig, thing))

    def no(self, rig, spots, thing):
        self.assertIs(goes(rig, spots, thing), False, (rig, thing))

    def test_each_kind(self):
        together, kept, apart = ((0, 0), (-1, 5)), ((0, 0), (0, 5)), ((0, 0), (1, 5))
        rights = {"bar": (False, True, False), "rope": (True, True, False), "prop": (False, True, True)}
        for kind, right in rights.items():
            rig = ((2, ((0, 1),)), (kind,), (), ())
            for spots in (((0, 0), (1, 0)), ((-999, 0), (999, 0))):
                self.assertEqual(tuple([goes(rig, spots, motion) for motion in (together, kept, apart)]), right)

    def test_holds(self):
        rig = ((2, ()), (), ((1, 3, -4),), ())
        spots = ((0, 0), (4, 0))
        self.yes(rig, spots, ((7, 8), (4, 3)))
        self.yes(rig, spots, ((7, 8), (-8, -6)))
        self.no(rig, spots, ((7, 8), (4, 2)))
        self.no(rig, spots, ((4, 3), (4, 4)))

    def test_walls(self):
        rig = ((2, ()), (), (), ((1, 3, -4),))
        spots = ((0, 0), (4, 0))
        self.yes(rig, spots, ((7, 8), (4, 3)))
        self.yes(rig, spots, ((7, 8), (4, 4)))
        self.no(rig, spots, ((7, 8), (4, 2)))
        self.yes(rig, spots, ((4, 2), (-1, 0)))

    def test_each_hold_and_wall_counts(self):
        stays = ((0, 1, 0), (1, 0, 1), (2, 1, 1), (3, -1, 0), (4, 0, -99), (5, 99, -99))
        spots = ((0, 0), (1, 0), (2, 0), (3, 0), (4, 0), (5, 0))
        still = ((0, 0),) * 6
        self.yes(((6, ()), (), stays, stays), spots, still)
        for at, (joint, a, b) in enumerate(stays):
            motion = still[:joint] + ((a, b),) + still[joint + 1:]
            back = still[:joint] + ((-a, -b),) + still[joint + 1:]
            self.no(((6, ()), (), stays, ()), spots, motion)
            self.no(((6, ()), (), stays, ()), spots, back)
            self.no(((6, ()), (), (), stays), spots, motion)
            self.yes(((6, ()), (), (), stays), spots, back)
            self.yes(((6, ()), (), stays[:at] + stays[at + 1:], ()), spots, motion)

    def test_all_of_it_together(self):
        self.yes(RIG, SPOTS, ((0, 0), (0, 0), (0, 0)))
        # Joint 2 slides down the wall: the rope to joint 0 slackens, the prop to joint 1 must not be pressed.
        self.no(RIG, SPOTS, ((0, 0), (0, 0), (0, -1)))
        self.yes(RIG, SPOTS, ((0, 0), (0, 0), (-4, -3)))
        self.no(RIG, SPOTS, ((0, 0), (0, 0), (-4, 1)))
        self.no(RIG, SPOTS, ((0, 0), (0, 0), (-1, 0))[::-1])

    def test_by_a_second_reckoning(self):
        draw = random.Random(41)
        told = []
        for rig, spots in drawn_rigs(41, 400):
            for far in (1, 2, HUGE):
                motion = drawn_pairs(draw, rig[0][0], far)
                told.append(goes(rig, spots, motion))
                self.assertIs(told[-1], let_go(rig, spots, motion))
            self.yes(rig, spots, ((0, 0),) * rig[0][0])
        self.assertGreater(told.count(True), 20)
        self.assertGreater(told.count(False), 20)

    def test_bars_alone_let_go_what_moves_the_frame(self):
        draw = random.Random(42)
        for frame, spots in drawn_cases(42, 100):
            rig = (frame, ("bar",) * len(frame[1]), (), ())
            for motion in (drawn_pairs(draw, frame[0], 1), ((3, 4),) * frame[0]):
                self.assertIs(goes(rig, spots, motion), moves(frame, spots, motion))

    def test_what_goes_goes_so_many_times_and_together(self):
        draw = random.Random(43)
        for rig, spots in drawn_rigs(43, 150):
            motions = [drawn_pairs(draw, rig[0][0], 1) for _ in range(6)]
            gone = [motion for motion in motions if goes(rig, spots, motion)]
            for one, other in itertools.product(gone, repeat=2):
                both = tuple([(HUGE * a + c, HUGE * b + d) for (a, b), (c, d) in zip(one, other)])
                self.yes(rig, spots, both)

    def test_bars_of_no_length_let_all_go(self):
        for kind in KINDS:
            rig = ((2, ((0, 1),)), (kind,), (), ())
            self.yes(rig, ((3, 3), (3, 3)), ((HUGE, 1), (-5, HUGE)))

    def test_numbers_of_a_hundred_figures(self):
        rig = ((1, ()), (), (), ((0, 99, -99),))
        self.yes(rig, ((0, 0),), ((HUGE, HUGE),))
        self.no(rig, ((0, 0),), ((HUGE, HUGE - 1),))
        self.yes(rig, ((0, 0),), ((HUGE - 1, HUGE),))
        rope = ((2, ((0, 1),)), ("rope",), (), ())
        self.no(rope, ((-999, 0), (999, 0)), ((HUGE - 1, 0), (HUGE, 0)))
        self.yes(rope, ((-999, 0), (999, 0)), ((HUGE, 0), (HUGE - 1, 0)))

    def test_lengths_and_kinds(self):
        for motion in (((0, 0),) * 3, ((0, 0), (0, 0), (-4, -3))):
            self.yes(RIG, SPOTS, motion)
            for thing in wrong_lengths(motion):
                self.no(RIG, SPOTS, thing)
            for thing in wrong_kinds(motion):
                self.no(RIG, SPOTS, thing)
        for thing in wrong_kinds(((0, 1),)):
            self.no(POINT, ((0, 0),), thing)
        for pair in ((), (0,), (0, 0, 0)):
            self.no(POINT, ((0, 0),), (pair,))

    def test_anything(self):
        for thing in anythings():
            self.no(RIG, SPOTS, thing)
            self.no(POINT, ((0, 0),), thing)
            self.no(POINT, ((0, 0),), (thing,))
            self.no(RIG, SPOTS, ((0, 0), (0, 0), thing))

    def test_what_is_asked_about_stays(self):
        thing = [[0, 0], (0, 0), [0]]
        goes(RIG, SPOTS, thing)
        goes(RIG, SPOTS, ((0, 0), (0, 0), thing))
        self.assertEqual(thing, [[0, 0], (0, 0), [0]])

    def test_by_name_in_another_order(self):
        self.assertIs(goes(thing=((0, 0),) * 3, spots=SPOTS, rig=RIG), True)
        self.assertIs(goes(spots=SPOTS, thing=((1, 0),) * 3, rig=RIG), False)


class IsForce(unittest.TestCase):
    def yes(self, rig, thing):
        self.assertIs(is_force(rig, thing), True, thing)

    def no(self, rig, thing):
        self.assertIs(is_force(rig, thing), False, thing)

    def test_ordinary_forces(self):
        self.yes(RIG, FORCE)
        self.yes(RIG, ((-7, 0, 0), (0, 0, 0), (0, 0)))
        self.yes(RIG, ((HUGE, HUGE, -HUGE), (HUGE, -HUGE, 0), (HUGE, 0)))
        self.yes(POINT, ((), (), ()))
        draw = random.Random(44)
        for rig, _ in drawn_rigs(44, 100):
            self.yes(rig, drawn_force(draw, rig, 9))

    def test_signs(self):
        for number in (-HUGE, -1, 0, 1, HUGE):
            rights = {"bar": True, "rope": number >= 0, "prop": number <= 0}
            for kind, right in rights.items():
                for at in range(3):
                    kinds = tuple([kind if place == at else "bar" for place in range(3)])
                    weights = tuple([number if place == at else -1 for place in range(3)])
                    self.assertIs(is_force((TRIANGLE, kinds, (), ()), (weights, (), ())), right)
            for at in range(6):
                each = tuple([number if place == at else 1 for place in range(6)])
                self.yes(((1, ()), (), SIX_STAYS, ()), ((), each, ()))
                self.assertIs(is_force(((1, ()), (), (), SIX_STAYS), ((), (), each)), number >= 0)

    def test_too_short_or_too_long(self):
        for thing in wrong_lengths(FORCE):
            self.no(RIG, thing)
        for at in range(3):
            for part in wrong_lengths(FORCE[at]):
                self.no(RIG, FORCE[:at] + (part,) + FORCE[at + 1:])
        for part in ((0,), (1,), ((),)):
            self.no(POINT, (part, (), ()))
            self.no(POINT, ((), part, ()))
            self.no(POINT, ((), (), part))
        self.no(POINT, ())

    def test_wrong_kinds_at_each_place(self):
        for thing in wrong_kinds(FORCE):
            self.no(RIG, thing)
        for thing in wrong_kinds(((), (), ())):
            self.no(POINT, thing)
        self.no(POINT, [[], [], []])

    def test_anything(self):
        for thing in anythings():
            self.no(RIG, thing)
            self.no(POINT, thing)
            for at in range(3):
                self.no(RIG, FORCE[:at] + (thing,) + FORCE[at + 1:])
        for thing in plain_things():
            for at in range(3):
                self.no(POINT, ((), (), ())[:at] + (thing,) + ((), (), ())[at + 1:])

    def test_what_is_asked_about_stays(self):
        thing = [[0, 1, -1], (1, 0, -5), [0, 1]]
        is_force(RIG, thing)
        is_force(RIG, (thing, thing, thing))
        self.assertEqual(thing, [[0, 1, -1], (1, 0, -5), [0, 1]])

    def test_by_name_in_another_order(self):
        self.assertIs(is_force(thing=FORCE, rig=RIG), True)
        self.assertIs(is_force(thing=RIG, rig=RIG), False)


class ComesTo(unittest.TestCase):
    def test_by_hand(self):
        # By its weight 1 the bar (0, 2) comes to (0, -3) and (0, 3), by -1 the bar (1, 2) to (-4, 3) and (4, -3).
        told = comes_to(RIG, SPOTS, FORCE)
        self.assertEqual(told, ((0, -3 + 1), (-4, 3 - 5), (4 - 3, 3 - 3 + 4)))

    def test_each_part_alone(self):
        self.assertEqual(comes_to(RIG, SPOTS, ((2, 0, 0), (0, 0, 0), (0, 0))), ((-8, 0), (8, 0), (0, 0)))
        self.assertEqual(comes_to(RIG, SPOTS, ((0, 0, 0), (5, 7, 9), (0, 0))), ((7, 5), (0, 9), (0, 0)))
        self.assertEqual(comes_to(RIG, SPOTS, ((0, 0, 0), (0, 0, 0), (6, 2))), ((0, 0), (6, 0), (-6, 8)))
        self.assertEqual(comes_to(POINT, ((4, 5),), ((), (), ())), ((0, 0),))

    def test_one_joint_with_six_holds_and_six_walls(self):
        rig = ((1, ()), (), SIX_STAYS, SIX_STAYS)
        told = comes_to(rig, ((0, 0),), ((), (1, -2, 3, -4, 5, -6), (6, 5, 4, 3, 2, 1)))
        self.assertEqual(told, ((-2 + 6 - 12 + 20 - 30 + 5 + 8 + 9 + 8 + 5, -3 + 21),))

    def test_weights_alone_by_a_second_reckoning(self):
        draw = random.Random(45)
        for rig, spots in drawn_rigs(45, 150):
            for far in (3, HUGE):
                weights = drawn_force(draw, rig, far)[0]
                force = (weights, (0,) * len(rig[2]), (0,) * len(rig[3]))
                self.assertEqual(comes_to(rig, spots, force), come_to(rig[0][1], spots, weights))

    def test_kinds_of_values(self):
        for rig, spots in drawn_rigs(46, 40):
            told = comes_to(rig, spots, drawn_force(random.Random(46), rig, 9))
            self.assertIs(type(told), tuple)
            self.assertEqual(len(told), rig[0][0])
            self.assertEqual({(type(pair), len(pair)) for pair in told}, {(tuple, 2)})
            self.assertEqual({type(number) for pair in told for number in pair}, {int})

    def test_the_work_on_any_motion_is_that_of_the_parts(self):
        draw = random.Random(47)
        for rig, spots in drawn_rigs(47, 200):
            (many, bars), _, holds, walls = rig
            for far in (5, HUGE):
                weights, pushes, shoves = force = drawn_force(draw, rig, far)
                motion = drawn_pairs(draw, many, far)
                work = sum([w * growth(spots, motion, *bar) for w, bar in zip(weights, bars)])
                for much, (joint, a, b) in zip(pushes + shoves, holds + walls):
                    work += much * (motion[joint][0] * a + motion[joint][1] * b)
                told = comes_to(rig, spots, force)
                self.assertEqual(sum([a * c + b * d for (a, b), (c, d) in zip(told, motion)]), work)

    def test_no_force_does_work_above_nought_by_what_goes(self):
        draw = random.Random(48)
        for rig, spots in drawn_rigs(48, 200):
            motion = drawn_pairs(draw, rig[0][0], 1)
            if goes(rig, spots, motion):
                told = comes_to(rig, spots, drawn_force(draw, rig, 9))
                self.assertLessEqual(sum([a * c + b * d for (a, b), (c, d) in zip(told, motion)]), 0)

    def test_what_was_handed_in_stays_and_is_answered_the_same(self):
        draw = random.Random(49)
        for rig, spots in drawn_rigs(49, 20):
            force = drawn_force(draw, rig, 9)
            before = copy.deepcopy((rig, spots, force))
            self.assertEqual(comes_to(rig, spots, force), comes_to(rig, spots, force))
            self.assertEqual((rig, spots, force), before)

    def test_by_name_in_another_order(self):
        self.assertEqual(comes_to(force=FORCE, spots=SPOTS, rig=RIG), comes_to(RIG, SPOTS, FORCE))


if __name__ == "__main__":
    unittest.main()
