"""Locked rigs: what tautens them, what loosens them."""

import copy
import itertools
import random
import unittest

from stayfast.frames import with_bar
from stayfast.loads import borne, stands
from stayfast.locks import is_locked, loosening, taut
from stayfast.motions import is_fast
from stayfast.rigs import comes_to, goes, is_force
from tests.drawn import HUGE, come_to, drawn_cases, drawn_pairs, flat, pairs_of, rank_of
from tests.rigged import (
    KINDS, drawn_loads, drawn_rigs, forced, held, largest_rigs, let_go, like_rigs, pairs_numbered_otherwise,
    rig_numbered_otherwise, sign,
)

POINT = ((1, ()), (), (), ())
SQUARE = ((0, 0), (4, 0), (4, 3), (0, 3))
# Each kind with the signs of its weight where it is taut.
TAUT = {"bar": (-1, 0, 1), "rope": (1,), "prop": (-1,)}


def as_bars(rig):
    """The rig with each member a bar, and with its walls as holds; these may be more than six."""
    frame, kinds, holds, walls = rig
    return (frame, ("bar",) * len(kinds), tuple(sorted({*holds, *walls})), ())


def rank_as_bars(rig, spots):
    """How many ways of moving are kept if each member is a bar and each wall a hold."""
    bars = [flat(come_to((bar,), spots, (1,))) for bar in rig[0][1]]
    stays = [flat([(a, b) if place == joint else (0, 0) for place in range(len(spots))])
             for joint, a, b in rig[2] + rig[3]]
    return rank_of(bars + stays)


class Case(unittest.TestCase):
    def tautened(self, rig, spots):
        """There is a force that tautens the rig."""
        force = taut(rig, spots)
        self.assertIs(is_force(rig, force), True, (rig, spots))
        self.assertEqual(forced(rig, spots, force), ((0, 0),) * len(spots))
        for kind, weight in zip(rig[1], force[0]):
            self.assertIn(sign(weight), TAUT[kind])
        self.assertTrue(all([shove > 0 for shove in force[2]]))

    def locked(self, rig, spots):
        self.assertIs(is_locked(rig, spots), True, (rig, spots))
        self.assertIsNone(loosening(rig, spots))
        self.tautened(rig, spots)

    def loose(self, rig, spots):
        self.assertIs(is_locked(rig, spots), False, (rig, spots))
        motion = loosening(rig, spots)
        self.assertIs(goes(rig, spots, motion), True)
        self.assertTrue(let_go(rig, spots, motion))
        self.assertTrue(any(flat(motion)))

    def loose_and_taut(self, rig, spots):
        self.loose(rig, spots)
        self.tautened(rig, spots)

    def loose_not_taut(self, rig, spots):
        self.loose(rig, spots)
        self.assertIsNone(taut(rig, spots))


class KnownRigs(Case):
    def test_a_joint_with_no_member(self):
        self.loose_and_taut(POINT, ((3, 4),))

    def test_a_joint_that_is_held(self):
        self.locked(((1, ()), (), held(0), ()), ((3, 4),))
        self.locked(((1, ()), (), ((0, 1, 0), (0, 99, -1)), ()), ((3, 4),))
        self.loose_and_taut(((1, ()), (), ((0, 1, 2),), ()), ((3, 4),))
        self.loose_and_taut(((1, ()), (), ((0, -1, -2), (0, 1, 2), (0, 2, 4)), ()), ((3, 4),))

    def test_a_joint_between_walls_of_several_ways(self):
        def against(*ways):
            return ((1, ()), (), (), tuple(sorted([(0, *way) for way in ways])))
        self.loose_not_taut(against((1, 0)), ((0, 0),))
        self.loose_not_taut(against((1, 0), (0, 1)), ((0, 0),))
        self.loose_and_taut(against((1, 0), (-1, 0)), ((0, 0),))
        self.loose_not_taut(against((1, 0), (-1, 0), (0, 1)), ((0, 0),))
        self.locked(against((1, 0), (-1, 0), (0, 1), (0, -1)), ((0, 0),))
        self.locked(against((1, 0), (-1, 1), (-1, -1)), ((0, 0),))
        self.locked(against((99, 1), (-99, 0), (0, -99)), ((0, 0),))
        self.loose_not_taut(against((99, 1), (98, -99), (0, 1), (0, -1)), ((0, 0),))

    def test_a_joint_on_a_hold_and_walls(self):
        self.loose_not_taut(((1, ()), (), ((0, 1, 1),), ((0, 1, 0),)), ((0, 0),))
        self.locked(((1, ()), (), ((0, 1, 1),), ((0, 0, 1), (0, 1, 0))), ((0, 0),))
        self.loose_and_taut(((1, ()), (), ((0, 1, 1),), ((0, -1, -1), (0, 1, 1))), ((0, 0),))
        self.loose_and_taut(((1, ()), (), ((0, 1, 1),), ((0, 1, 1),)), ((0, 0),))

    def test_a_joint_hung_on_three_ropes(self):
        ends = ((4, -2), (-4, -2), (0, 5))
        for kind in ("rope", "prop"):
            rig = ((4, ((0, 1), (0, 2), (0, 3))), (kind,) * 3, held(1, 2, 3), ())
            self.locked(rig, ((0, 0), *ends))
            self.locked(rig, ((1, -1), *ends))
            self.loose_not_taut(rig, ((0, 20), *ends))
            self.loose_not_taut(rig, ((0, -3), *ends))
            # On the line between two ends the third rope bears nothing.
            self.loose_not_taut(rig, ((0, -2), *ends))
            # At an end one rope has no length, the others don't balance.
            self.loose_not_taut(rig, ((4, -2), *ends))
        bars = ((4, ((0, 1), (0, 2), (0, 3))), ("bar",) * 3, held(1, 2, 3), ())
        self.locked(bars, ((0, 20), *ends))
        self.locked(bars, ((0, -2), *ends))

    def test_a_joint_on_two_ropes(self):
        rig = ((3, ((0, 1), (0, 2))), ("rope",) * 2, held(1, 2), ())
        # In line the joint can still be moved across.
        self.loose_and_taut(rig, ((0, 0), (-2, 0), (5, 0)))
        self.loose_not_taut(rig, ((0, 0), (2, 0), (5, 0)))
        self.loose_not_taut(rig, ((0, 1), (-2, 0), (5, 0)))

    def test_a_square_with_two_across(self):
        holds = ((0, 0, 1), (0, 1, 0), (1, 0, 1))
        for one, other in itertools.product(KINDS, repeat=2):
            rig = ((4, pairs_of(4)), ("bar", one, "bar", "bar", other, "bar"), holds, ())
            # What lies across bears alike on both ways, so a rope and a prop don't tauten one another.
            (self.loose_not_taut if {one, other} == {"rope", "prop"} else self.locked)(rig, SQUARE)
            free = (rig[0], rig[1], (), ())
            (self.loose_not_taut if {one, other} == {"rope", "prop"} else self.loose_and_taut)(free, SQUARE)

    def test_a_square_of_ropes_with_props_across(self):
        holds = ((0, 0, 1), (0, 1, 0), (1, 0, 1))
        for side, across in itertools.product(KINDS, repeat=2):
            rig = ((4, pairs_of(4)), (side, across, side, side, across, side), holds, ())
            (self.loose_not_taut if side == across != "bar" else self.locked)(rig, SQUARE)

    def test_members_of_no_length(self):
        for kind in KINDS:
            rig = ((2, ((0, 1),)), (kind,), held(0), ())
            self.loose_and_taut(rig, ((7, 7), (7, 7)))
            self.locked((rig[0], (kind,), held(0, 1), ()), ((7, 7), (7, 7)))

    def test_spots_in_line_and_at_the_edges(self):
        frame = (3, pairs_of(3))
        line = ((-999, -999), (999, 999), (0, 0))
        self.loose_and_taut((frame, ("bar",) * 3, held(0, 1), ()), line)
        self.loose_not_taut((frame, ("rope",) * 3, held(0), ()), line)
        self.loose_and_taut((frame, ("prop", "rope", "rope"), held(0), ()), line)
        self.loose_and_taut((frame, ("rope", "prop", "prop"), held(0), ()), line)
        self.locked((frame, ("bar",) * 3, held(0, 1), ()), ((-999, -999), (999, 999), (0, 1)))

    def test_a_frame_that_is_fast_is_locked_by_three_holds(self):
        count = 0
        for frame, spots in drawn_cases(80, 150):
            apart = [joint for joint, spot in enumerate(spots) if spot != spots[0]]
            if is_fast(frame, spots) and apart:
                last = apart[0]
                x, y = spots[last][0] - spots[0][0], spots[last][1] - spots[0][1]
                far = max(abs(x), abs(y))
                if far <= 99:
                    rig = (frame, ("bar",) * len(frame[1]), held(0) + ((last, -y, x),), ())
                    in_line = all([(a - spots[0][0]) * y == (b - spots[0][1]) * x for a, b in spots])
                    # In line only what lies on one of both spots is kept across.
                    if not in_line:
                        self.locked(rig, spots)
                        count += 1
        self.assertGreater(count, 10)


class Drawn(Case):
    def agree(self, rig, spots):
        """Tell whether the rig is locked, and whether it is taut, where all that is told of it agrees."""
        locked = is_locked(rig, spots)
        force = taut(rig, spots)
        (self.locked if locked else self.loose)(rig, spots)
        if force is not None:
            self.tautened(rig, spots)
        self.assertIs(locked, force is not None and rank_as_bars(rig, spots) == 2 * len(spots))
        return (locked, force is not None)

    def test_all_that_is_told_agrees(self):
        counts = {}
        for rig, spots in drawn_rigs(81, 500):
            told = self.agree(rig, spots)
            counts[told] = counts.get(told, 0) + 1
        self.assertEqual(set(counts), {(True, True), (False, True), (False, False)})
        self.assertGreater(min(counts.values()), 40)

    def test_without_ropes_props_and_walls(self):
        for (frame, kinds, holds, walls), spots in drawn_rigs(82, 100):
            bars = ("bar",) * len(kinds)
            self.assertIs(self.agree((frame, bars, holds, ()), spots)[1], True)
            self.agree((frame, bars, holds, walls), spots)
            self.agree((frame, kinds, (), ()), spots)
            self.agree((frame, kinds, holds, ()), spots)
            self.agree((frame, kinds, (), walls), spots)

    def test_the_largest_rigs(self):
        locked = 0
        for rig, spots in largest_rigs(83, 30):
            locked += self.agree(rig, spots)[0]
            self.agree((rig[0], rig[1], (), ()), spots)
        self.assertGreater(locked, 5)

    def test_a_locked_rig_bears_each_load(self):
        draw = random.Random(84)
        count = 0
        for rig, spots in drawn_rigs(84, 150) + largest_rigs(84, 6):
            if is_locked(rig, spots):
                count += 1
                for load in (*drawn_loads(draw, rig, spots), drawn_pairs(draw, len(spots), HUGE)):
                    self.assertIs(stands(rig, spots, load), True)
        self.assertGreater(count, 20)

    def test_of_any_other_the_loosening_motion_as_a_load_is_not_borne(self):
        count = 0
        for rig, spots in drawn_rigs(85, 200) + largest_rigs(85, 6):
            motion = loosening(rig, spots)
            if motion is not None:
                count += 1
                self.assertIs(stands(rig, spots, motion), False)
                self.assertIsNone(borne(rig, spots, motion))
        self.assertGreater(count, 50)

    def test_what_is_locked_stays_so_with_bars_and_holds(self):
        count = 0
        for rig, spots in drawn_rigs(86, 300):
            if is_locked(rig, spots):
                count += 1
                self.locked(as_bars(rig), spots)
                self.locked((rig[0], ("bar",) * len(rig[1]), *rig[2:]), spots)
        self.assertGreater(count, 40)

    def test_more_members_unlock_nothing(self):
        for rig, spots in drawn_rigs(87, 100):
            (many, bars), kinds, holds, walls = rig
            if is_locked(rig, spots) and len(bars) < len(pairs_of(many)):
                pair = [pair for pair in pairs_of(many) if pair not in bars][0]
                frame = with_bar(rig[0], *pair)
                at = frame[1].index(pair)
                for kind in KINDS:
                    self.assertIs(is_locked((frame, kinds[:at] + (kind,) + kinds[at:], holds, walls), spots), True)

    def test_what_is_taut_comes_to_noughts(self):
        for rig, spots in drawn_rigs(88, 100):
            force = taut(rig, spots)
            if force is not None:
                self.assertEqual(comes_to(rig, spots, force), ((0, 0),) * len(spots))

    def test_kinds_of_values(self):
        for rig, spots in drawn_rigs(89, 100):
            self.assertIs(type(is_locked(rig, spots)), bool)
            for told in (taut(rig, spots), loosening(rig, spots)):
                if told is not None:
                    self.assertIs(type(told), tuple)
                    self.assertEqual({type(part) for part in told}, {tuple})
                    self.assertLessEqual({type(number) for part in told for number in part}, {int})

    def test_the_same_asked_again_is_answered_the_same(self):
        for rig, spots in drawn_rigs(90, 40):
            before = copy.deepcopy((rig, spots))
            for ask in (is_locked, taut, loosening):
                self.assertEqual(ask(rig, spots), ask(rig, spots))
                self.assertEqual(ask(spots=spots, rig=rig), ask(rig, spots))
            self.assertEqual((rig, spots), before)


class ToldAlike(unittest.TestCase):
    def told(self, rig, spots):
        return (is_locked(rig, spots), taut(rig, spots) is None, loosening(rig, spots) is None)

    def test_put_elsewhere_made_greater_turned_mirrored(self):
        counts = {}
        for rig, far in drawn_rigs(91, 120):
            spots = tuple([(x // 11, y // 11) for x, y in far])
            told = self.told(rig, spots)
            counts[told] = counts.get(told, 0) + 1
            for like, changed, _ in like_rigs(rig, spots, spots):
                self.assertEqual(self.told(like, changed), told)
        self.assertGreater(min(counts.values()), 5)

    def test_numbered_otherwise(self):
        draw = random.Random(92)
        for rig, spots in drawn_rigs(92, 150):
            order = draw.sample(range(len(spots)), len(spots))
            renamed = rig_numbered_otherwise(rig, order)[0]
            self.assertEqual(self.told(renamed, pairs_numbered_otherwise(spots, order)), self.told(rig, spots))


if __name__ == "__main__":
    unittest.main()
