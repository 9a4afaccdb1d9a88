"""Loads: their work, whether they stand, what bears them, and motions by which they fall."""

import copy
import itertools
import random
import unittest

from stayfast.loads import bears, borne, falling, stands, work
from stayfast.motions import grows
from stayfast.rigs import comes_to, goes, is_force
from stayfast.weights import balances
from tests.anything import anythings, nested, plain_things, wrong_kinds, wrong_lengths
from tests.drawn import HUGE, drawn_pairs, pairs_of
from tests.rigged import (
    KINDS, SIX_STAYS, bearable, done, drawn_force, drawn_loads, drawn_rigs, force_so_often, forced, held, largest_rigs,
    let_go, like_rigs, pairs_numbered_otherwise, put_together, rig_numbered_otherwise, so_often, spoilt,
)

POINT = ((1, ()), (), (), ())
# A joint 1 on a rope to the held joint 0.
ON_A_ROPE = ((2, ((0, 1),)), ("rope",), held(0), ())
# A joint 0 between three held joints round it.
HUNG = ((4, ((0, 1), (0, 2), (0, 3))), ("rope",) * 3, held(1, 2, 3), ())
ROUND = ((4, -2), (-4, -2), (0, 5))
SQUARE = ((0, 0), (4, 0), (4, 3), (0, 3))


def drawn_cases(seed, count):
    """Drawn rigs with spots and loads."""
    draw = random.Random(seed)
    return [(rig, spots, load) for rig, spots in drawn_rigs(seed, count) for load in drawn_loads(draw, rig, spots)]


class Work(unittest.TestCase):
    def test_by_hand(self):
        self.assertEqual(work(((1, 2), (3, 4)), ((5, -6), (-7, 8))), 5 - 12 - 21 + 32)
        self.assertEqual(work(((0, 0),), ((9, 9),)), 0)
        self.assertEqual(work(((1, 0),), ((5, 7),)), 5)
        self.assertEqual(work(((0, 1),), ((5, 7),)), 7)

    def test_huge(self):
        self.assertEqual(work(((HUGE, -HUGE),), ((HUGE, 1),)), HUGE * HUGE - HUGE)

    def test_a_second_reckoning(self):
        draw = random.Random(60)
        for many in range(1, 7):
            for far in (4, HUGE):
                load, motion = drawn_pairs(draw, many, far), drawn_pairs(draw, many, far)
                told = work(load, motion)
                self.assertIs(type(told), int)
                self.assertEqual(told, done(load, motion))
                self.assertEqual(work(motion, load), told)
                self.assertEqual(work(so_often(-3, load), motion), -3 * told)

    def test_by_name_in_another_order(self):
        self.assertEqual(work(motion=((5, 7),), load=((1, 2),)), 19)


class Case(unittest.TestCase):
    def stood(self, rig, spots, load):
        """The load stands, by a force."""
        self.assertIs(stands(rig, spots, load), True, (rig, spots, load))
        self.assertIsNone(falling(rig, spots, load))
        told = borne(rig, spots, load)
        self.assertIs(type(told), tuple)
        bottom, force = told
        self.assertIs(type(bottom), int)
        self.assertGreaterEqual(bottom, 1)
        self.assertIs(is_force(rig, force), True)
        self.assertTrue(bearable(rig, force))
        self.assertEqual(forced(rig, spots, force), so_often(bottom, load))
        self.assertIs(bears(rig, spots, load, told), True)

    def fell(self, rig, spots, load):
        """The load falls, by a motion."""
        self.assertIs(stands(rig, spots, load), False, (rig, spots, load))
        self.assertIsNone(borne(rig, spots, load))
        motion = falling(rig, spots, load)
        self.assertIs(goes(rig, spots, motion), True)
        self.assertTrue(let_go(rig, spots, motion))
        self.assertGreater(done(load, motion), 0)


class KnownRigs(Case):
    def test_a_joint_with_no_member(self):
        self.stood(POINT, ((3, 4),), ((0, 0),))
        for load in ((1, 0), (0, -1), (HUGE, HUGE)):
            self.fell(POINT, ((3, 4),), (load,))

    def test_a_joint_on_one_rope_pulled_and_pushed(self):
        for spot in ((5, 0), (-3, 4), (999, -999)):
            spots = ((0, 0), spot)
            for at_the_hold in ((0, 0), (7, -8), (HUGE, 1)):
                self.stood(ON_A_ROPE, spots, (at_the_hold, spot))
                self.stood(ON_A_ROPE, spots, (at_the_hold, (HUGE * spot[0], HUGE * spot[1])))
                self.fell(ON_A_ROPE, spots, (at_the_hold, (-spot[0], -spot[1])))
                self.fell(ON_A_ROPE, spots, (at_the_hold, (-spot[1], spot[0])))

    def test_a_joint_on_one_prop_pulled_and_pushed(self):
        rig = (ON_A_ROPE[0], ("prop",), *ON_A_ROPE[2:])
        self.stood(rig, ((0, 0), (-3, 4)), ((0, 0), (3, -4)))
        self.fell(rig, ((0, 0), (-3, 4)), ((0, 0), (-3, 4)))

    def test_a_joint_on_one_bar_pulled_and_pushed(self):
        rig = (ON_A_ROPE[0], ("bar",), *ON_A_ROPE[2:])
        self.stood(rig, ((0, 0), (-3, 4)), ((0, 0), (3, -4)))
        self.stood(rig, ((0, 0), (-3, 4)), ((0, 0), (-3, 4)))
        self.fell(rig, ((0, 0), (-3, 4)), ((0, 0), (4, 3)))

    def test_a_joint_on_a_bar_of_no_length(self):
        for kind in KINDS:
            rig = (ON_A_ROPE[0], (kind,), *ON_A_ROPE[2:])
            self.stood(rig, ((7, 7), (7, 7)), ((5, 5), (0, 0)))
            self.fell(rig, ((7, 7), (7, 7)), ((0, 0), (1, 0)))

    def test_a_joint_against_a_wall(self):
        for a, b in ((1, 0), (0, -1), (3, 4), (-99, 99)):
            rig = ((1, ()), (), (), ((0, a, b),))
            self.stood(rig, ((0, 0),), ((a, b),))
            self.stood(rig, ((0, 0),), ((HUGE * a, HUGE * b),))
            self.fell(rig, ((0, 0),), ((-a, -b),))
            self.fell(rig, ((0, 0),), ((b, -a),))
            self.fell(rig, ((0, 0),), ((a - b, a + b),))

    def test_a_joint_on_a_hold(self):
        rig = ((1, ()), (), ((0, 3, 4),), ())
        self.stood(rig, ((0, 0),), ((3, 4),))
        self.stood(rig, ((0, 0),), ((-3, -4),))
        self.stood(rig, ((0, 0),), ((9, 12),))
        self.fell(rig, ((0, 0),), ((4, -3),))

    def test_a_joint_between_walls_of_several_ways(self):
        corner = ((1, ()), (), (), ((0, -1, 0), (0, 0, -1)))
        for x, y in itertools.product(range(-2, 3), repeat=2):
            told = self.stood if x <= 0 and y <= 0 else self.fell
            told(corner, ((0, 0),), ((x, y),))
        between = ((1, ()), (), (), ((0, -2, -1), (0, 0, 1), (0, 2, -1)))
        slit = ((1, ()), (), (), ((0, -1, 0), (0, 1, 0)))
        for x, y in itertools.product(range(-2, 3), repeat=2):
            self.stood(between, ((5, 5),), ((x, y),))
            (self.stood if y == 0 else self.fell)(slit, ((5, 5),), ((x, y),))

    def test_a_joint_hung_on_three_ropes(self):
        loads = [((x, y), (0, 0), (1, 1), (HUGE, 0)) for x, y in itertools.product((-3, 0, 2), repeat=2)]
        for load in loads:
            self.stood(HUNG, ((0, 0), *ROUND), load)
            self.stood((HUNG[0], ("prop",) * 3, *HUNG[2:]), ((0, 0), *ROUND), load)
        # Beyond the three all ropes come from below.
        above = ((0, 20), *ROUND)
        self.stood(HUNG, above, ((0, 1), (0, 0), (0, 0), (0, 0)))
        self.stood(HUNG, above, ((4, 22), (0, 0), (0, 0), (0, 0)))
        self.fell(HUNG, above, ((5, 22), (0, 0), (0, 0), (0, 0)))
        self.fell(HUNG, above, ((0, -1), (0, 0), (0, 0), (0, 0)))

    def test_a_square_with_two_across(self):
        holds = ((0, 0, 1), (0, 1, 0), (1, 0, 1))
        pushed = ((0, 0), (0, 0), (0, 0), (1, 0))
        pulled = ((0, 0), (0, 0), (0, 0), (-1, 0))
        for one, other in itertools.product(KINDS, repeat=2):
            rig = ((4, pairs_of(4)), ("bar", one, "bar", "bar", other, "bar"), holds, ())
            # Pushed at the upper left corner, the way across from below left grows, the other one shrinks.
            (self.fell if (one, other) == ("prop", "rope") else self.stood)(rig, SQUARE, pushed)
            (self.fell if (one, other) == ("rope", "prop") else self.stood)(rig, SQUARE, pulled)

    def test_no_holds_and_no_walls(self):
        rig = ((3, pairs_of(3)), ("bar",) * 3, (), ())
        spots = ((0, 0), (4, 0), (0, 3))
        self.stood(rig, spots, ((0, 0), (0, 0), (0, 0)))
        self.stood(rig, spots, ((1, 0), (-1, 0), (0, 0)))
        self.fell(rig, spots, ((1, 0), (0, 0), (0, 0)))
        self.fell(rig, spots, ((0, 1), (0, -1), (0, 0)))

    def test_spots_in_line_and_on_one_another(self):
        rig = ((3, pairs_of(3)), ("bar",) * 3, held(0), ())
        for spots in (((0, 0), (4, 0), (-7, 0)), ((0, 0), (4, 0), (4, 0))):
            self.stood(rig, spots, ((0, 0), (5, 0), (6, 0)))
            self.fell(rig, spots, ((0, 0), (0, 1), (0, 0)))
        self.fell(rig, ((0, 0),) * 3, ((0, 0), (5, 0), (-5, 0)))

    def test_the_edges_of_the_field(self):
        rig = ((3, ((0, 2), (1, 2))), ("prop", "prop"), held(0, 1), ())
        spots = ((-999, -999), (999, -999), (0, 999))
        self.stood(rig, spots, ((0, 0), (0, 0), (0, -HUGE)))
        self.stood(rig, spots, ((0, 0), (0, 0), (HUGE, -2 * HUGE)))
        self.fell(rig, spots, ((0, 0), (0, 0), (HUGE, -2 * HUGE + 1999)))
        self.fell(rig, spots, ((0, 0), (0, 0), (0, 1)))

    def test_bottoms_that_are_not_one(self):
        rig = ((1, ()), (), ((0, 3, 0), (0, 5, 7)), ())
        told = borne(rig, ((0, 0),), ((1, 1),))
        self.assertIs(bears(rig, ((0, 0),), ((1, 1),), told), True)
        self.assertEqual(told[0] % 21, 0)


class Drawn(Case):
    def test_just_one_of_both_is_there(self):
        counts = [0, 0]
        for rig, spots, load in drawn_cases(61, 120):
            told = borne(rig, spots, load)
            (self.fell if told is None else self.stood)(rig, spots, load)
            counts[told is None] += 1
        self.assertGreater(min(counts), 200)

    def test_the_largest_rigs(self):
        draw = random.Random(62)
        for rig, spots in largest_rigs(62, 24):
            for load in drawn_loads(draw, rig, spots):
                (self.fell if borne(rig, spots, load) is None else self.stood)(rig, spots, load)

    def test_the_largest_rigs_with_few_holds_and_walls(self):
        draw = random.Random(63)
        counts = [0, 0]
        for (frame, kinds, holds, walls), spots in largest_rigs(63, 9):
            for rig in ((frame, kinds, holds[:2], ()), (frame, kinds, (), walls), (frame, kinds, (), ())):
                for load in drawn_loads(draw, rig, spots):
                    told = borne(rig, spots, load)
                    (self.fell if told is None else self.stood)(rig, spots, load)
                    counts[told is None] += 1
        self.assertGreater(min(counts), 50)

    def test_what_a_force_comes_to_stands(self):
        draw = random.Random(64)
        for rig, spots in drawn_rigs(64, 60):
            for far in (1, 9, HUGE):
                force = drawn_force(draw, rig, far)
                load = comes_to(rig, spots, force)
                self.stood(rig, spots, load)
                self.assertIs(bears(rig, spots, load, (1, force)), True)

    def test_what_is_told_taken_so_many_times_still_bears(self):
        for rig, spots, load in drawn_cases(65, 60):
            told = borne(rig, spots, load)
            motion = falling(rig, spots, load)
            for count in (2, 7, HUGE):
                if told is None:
                    self.assertIs(goes(rig, spots, so_often(count, motion)), True)
                    self.assertGreater(work(load, so_often(count, motion)), 0)
                else:
                    more = (count * told[0], force_so_often(count, told[1]))
                    self.assertIs(bears(rig, spots, load, more), True)
                    self.assertIs(bears(rig, spots, so_often(count, load), (told[0], more[1])), True)

    def test_what_is_told_spoilt_bears_just_where_the_document_says(self):
        counts = [0, 0]
        for rig, spots, load in drawn_cases(66, 50):
            told = borne(rig, spots, load)
            for thing in () if told is None else spoilt(told):
                bottom, force = thing
                right = bottom > 0 and bearable(rig, force) and forced(rig, spots, force) == so_often(bottom, load)
                self.assertIs(bears(rig, spots, load, thing), right, (rig, spots, load, thing))
                counts[right] += 1
        self.assertGreater(min(counts), 200)

    def test_what_bears_one_load_bears_no_other(self):
        for rig, spots, load in drawn_cases(67, 50):
            told = borne(rig, spots, load)
            for other in () if told is None else spoilt(load):
                self.assertIs(bears(rig, spots, other, told), False)

    def test_two_loads_that_stand_stand_together(self):
        draw = random.Random(68)
        counts = [0, 0]
        for rig, spots in drawn_rigs(68, 90):
            standing = [load for load in drawn_loads(draw, rig, spots) if stands(rig, spots, load)]
            for one, other in itertools.combinations(standing, 2):
                self.assertIs(stands(rig, spots, put_together(one, other)), True)
                self.assertIs(stands(rig, spots, put_together(so_often(5, one), so_often(HUGE, other))), True)
                counts[stands(rig, spots, put_together(one, so_often(-1, other)))] += 1
        self.assertGreater(min(counts), 100)

    def test_loads_taken_so_many_times(self):
        for rig, spots, load in drawn_cases(69, 60):
            self.assertIs(stands(rig, spots, so_often(HUGE, load)), stands(rig, spots, load))

    def test_the_same_asked_again_is_answered_the_same(self):
        for rig, spots, load in drawn_cases(70, 20):
            before = copy.deepcopy((rig, spots, load))
            for ask in (stands, borne, falling):
                self.assertEqual(ask(rig, spots, load), ask(rig, spots, load))
            self.assertEqual((rig, spots, load), before)

    def test_by_name_in_another_order(self):
        for rig, spots, load in drawn_cases(71, 20):
            for ask in (stands, borne, falling):
                self.assertEqual(ask(load=load, rig=rig, spots=spots), ask(rig, spots, load))
            told = borne(rig, spots, load)
            self.assertIs(bears(thing=told, load=load, rig=rig, spots=spots), told is not None)


class Together(unittest.TestCase):
    """What holds of motions that go, of forces and of loads together."""

    def test_no_load_that_a_force_comes_to_does_work_by_a_motion_that_goes(self):
        draw = random.Random(72)
        count = 0
        for rig, spots, load in drawn_cases(72, 150):
            motion = falling(rig, spots, load)
            if motion is not None:
                force = drawn_force(draw, rig, draw.choice((9, HUGE)))
                self.assertLessEqual(work(comes_to(rig, spots, force), motion), 0)
                count += 1
        self.assertGreater(count, 200)

    def test_forces_put_together_are_forces(self):
        draw = random.Random(73)
        for rig, spots in drawn_rigs(73, 100):
            one, other = drawn_force(draw, rig, 9), drawn_force(draw, rig, HUGE)
            both = tuple([tuple([a + b for a, b in zip(part, beside)]) for part, beside in zip(one, other)])
            self.assertIs(is_force(rig, both), True)
            apart = (comes_to(rig, spots, one), comes_to(rig, spots, other))
            self.assertEqual(comes_to(rig, spots, both), put_together(*apart))

    def test_motions_that_go_put_together_go(self):
        draw = random.Random(74)
        count = 0
        for rig, spots in drawn_rigs(74, 150):
            motions = [falling(rig, spots, load) for load in drawn_loads(draw, rig, spots)]
            for one, other in itertools.combinations([motion for motion in motions if motion is not None], 2):
                self.assertIs(goes(rig, spots, put_together(one, other)), True)
                self.assertIs(goes(rig, spots, put_together(so_often(HUGE, one), so_often(3, other))), True)
                count += one != other
        self.assertGreater(count, 50)

    def test_weights_that_balance_and_motions_do_no_work_on_one_another(self):
        draw = random.Random(75)
        count = 0
        for rig, spots in drawn_rigs(75, 80):
            motion = falling(rig, spots, drawn_pairs(draw, len(spots), 9)) or drawn_pairs(draw, len(spots), 9)
            for weights in balances(rig[0], spots):
                parts = [weight * grows(spots, motion, *bar) for weight, bar in zip(weights, rig[0][1])]
                self.assertEqual(sum(parts), 0)
                count += any(parts)
        self.assertGreater(count, 20)


class MoreMembers(unittest.TestCase):
    def more(self, rig):
        """The rig with each hold, wall and bar more that is tried, and with members that bear more."""
        (many, bars), kinds, holds, walls = rig
        for pair, kind in itertools.product(pairs_of(many), KINDS):
            if pair not in bars:
                with_one = sorted([*zip(bars, kinds), (pair, kind)])
                yield ((many, tuple([bar for bar, _ in with_one])), tuple([name for _, name in with_one]), holds, walls)
        for at in range(len(kinds)):
            yield ((many, bars), kinds[:at] + ("bar",) + kinds[at + 1:], holds, walls)
        for stay in ((0, 1, 0), (many - 1, -2, 3)):
            if stay not in holds and len(holds) < 6:
                yield ((many, bars), kinds, tuple(sorted([*holds, stay])), walls)
            if stay not in walls and len(walls) < 6:
                yield ((many, bars), kinds, holds, tuple(sorted([*walls, stay])))

    def test_more_members_never_make_less_stand(self):
        draw = random.Random(76)
        count = 0
        for rig, spots in drawn_rigs(76, 60):
            load = draw.choice(drawn_loads(draw, rig, spots)[1:])
            stood = stands(rig, spots, load)
            for more in self.more(rig):
                if stood:
                    self.assertIs(stands(more, spots, load), True)
                else:
                    count += stands(more, spots, load)
        self.assertGreater(count, 5)


class ToldAlike(unittest.TestCase):
    def test_put_elsewhere_made_greater_turned_mirrored(self):
        counts = [0, 0]
        for rig, far, load in drawn_cases(77, 40):
            spots = tuple([(x // 11, y // 11) for x, y in far])
            stood = stands(rig, spots, load)
            counts[stood] += 1
            for like, changed, weighed in like_rigs(rig, spots, load):
                self.assertIs(stands(like, changed, weighed), stood)
        self.assertGreater(min(counts), 50)

    def test_numbered_otherwise(self):
        draw = random.Random(78)
        for rig, spots, load in drawn_cases(78, 40):
            order = draw.sample(range(len(spots)), len(spots))
            renamed = rig_numbered_otherwise(rig, order)[0]
            moved, weighed = pairs_numbered_otherwise(spots, order), pairs_numbered_otherwise(load, order)
            self.assertIs(stands(renamed, moved, weighed), stands(rig, spots, load))


class Bears(unittest.TestCase):
    RIG = ((3, pairs_of(3)), KINDS, ((0, 0, 1), (0, 1, 0), (1, 0, 1)), ((1, 1, 0), (2, -3, 4)))
    SPOTS = ((0, 0), (4, 0), (0, 3))
    FORCE = ((0, 1, -1), (1, 0, -5), (0, 1))
    LOAD = ((0, -2), (-4, -2), (1, 4))

    def no(self, thing):
        self.assertIs(bears(self.RIG, self.SPOTS, self.LOAD, thing), False, thing)

    def test_by_hand(self):
        self.assertIs(bears(self.RIG, self.SPOTS, self.LOAD, (1, self.FORCE)), True)
        self.assertIs(bears(self.RIG, self.SPOTS, self.LOAD, (3, force_so_often(3, self.FORCE))), True)
        self.assertIs(bears(self.RIG, self.SPOTS, so_often(3, self.LOAD), (1, force_so_often(3, self.FORCE))), True)
        self.assertIs(bears(POINT, ((0, 0),), ((0, 0),), (HUGE, ((), (), ()))), True)
        self.no((2, self.FORCE))
        self.no((1, force_so_often(2, self.FORCE)))

    def test_bottoms(self):
        for bottom in (-HUGE, -1, 0, 1, 2, HUGE):
            self.assertIs(bears(POINT, ((0, 0),), ((0, 0),), (bottom, ((), (), ()))), bottom > 0)
            self.assertIs(bears(self.RIG, self.SPOTS, self.LOAD, (bottom, force_so_often(bottom, self.FORCE))),
                          bottom > 0)
        nought = force_so_often(0, self.FORCE)
        self.no((0, nought))
        for bottom in (-1, 0):
            self.assertIs(bears(self.RIG, self.SPOTS, so_often(0, self.LOAD), (bottom, nought)), False)

    def test_signs(self):
        # What comes to the load, but by a rope pushed, a prop pulled, a wall pulling.
        for at, kind in enumerate(KINDS):
            for weight in (-1, 1):
                weights = tuple([weight if place == at else 0 for place in range(3)])
                force = (weights, (0, 0, 0), (0, 0))
                load = forced(self.RIG, self.SPOTS, force)
                right = kind == "bar" or (kind == "rope") == (weight > 0)
                self.assertIs(bears(self.RIG, self.SPOTS, load, (1, force)), right)
        for shoves in ((1, 0), (0, 1), (-1, 0), (0, -1)):
            force = ((0, 0, 0), (0, 0, 0), shoves)
            right = min(shoves) == 0
            self.assertIs(bears(self.RIG, self.SPOTS, forced(self.RIG, self.SPOTS, force), (1, force)), right)

    def test_each_joint_and_each_number_counts(self):
        for load in spoilt(self.LOAD):
            self.assertIs(bears(self.RIG, self.SPOTS, load, (1, self.FORCE)), False)

    def test_wrong_kinds_at_each_place(self):
        for thing in wrong_kinds((1, self.FORCE)):
            self.no(thing)
        for thing in wrong_kinds((1, ((), (), ()))):
            self.assertIs(bears(POINT, ((0, 0),), ((0, 0),), thing), False)

    def test_too_short_or_too_long(self):
        for thing in wrong_lengths((1, self.FORCE)):
            self.no(thing)
        for thing in wrong_lengths(self.FORCE):
            self.no((1, thing))
        for at in range(3):
            for part in wrong_lengths(self.FORCE[at]):
                self.no((1, self.FORCE[:at] + (part,) + self.FORCE[at + 1:]))

    def test_anything(self):
        for thing in anythings():
            self.no(thing)
            self.no((1, thing))
            if thing != 1 or isinstance(thing, bool):
                self.no((thing, self.FORCE))
            self.assertIs(bears(POINT, ((0, 0),), ((0, 0),), thing), False)
        for thing in plain_things():
            for at in range(3):
                self.no((1, self.FORCE[:at] + (thing,) + self.FORCE[at + 1:]))
        self.no((1, nested(tuple, 9)))
        self.no((1, nested(list, 9)))

    def test_what_is_asked_about_stays(self):
        thing = [1, [[0, 1, -1], (1, 0, -5), [0, 1]]]
        self.no(thing)
        self.no((1, thing[1]))
        self.assertEqual(thing, [1, [[0, 1, -1], (1, 0, -5), [0, 1]]])

    def test_one_joint_with_six_holds_and_six_walls(self):
        rig = ((1, ()), (), SIX_STAYS, SIX_STAYS)
        for load in (((0, 0),), ((1, 0),), ((-HUGE, HUGE),)):
            told = borne(rig, ((0, 0),), load)
            self.assertIs(bears(rig, ((0, 0),), load, told), True)


if __name__ == "__main__":
    unittest.main()
