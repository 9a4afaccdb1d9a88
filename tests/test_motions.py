"""Motions: what they keep, which are stiff, whether a frame is fast, and the papers."""

import copy
import itertools
import random
import unittest

from stayfast.motions import fast_paper, fast_shown, grows, is_fast, is_stiff, moves, moving
from stayfast.weights import balances
from tests.anything import anythings, nested, wrong_kinds, wrong_lengths
from tests.drawn import (
    HUGE, all_cases, bars_rank, come_to, drawn_cases, drawn_pairs, drawn_spots, flat, growth, likenesses,
    numbered_otherwise, pairs_of, rank_of,
)

SQUARE = (4, ((0, 1), (0, 3), (1, 2), (2, 3)))
BRACED = (4, ((0, 1), (0, 2), (0, 3), (1, 2), (2, 3)))
SQUARE_SPOTS = ((0, 0), (4, 0), (4, 3), (0, 3))
TRIANGLE = (3, ((0, 1), (0, 2), (1, 2)))
SHEAR = ((0, 0), (0, 0), (1, 0), (1, 0))
CIRCLE = ((5, 0), (3, 4), (-3, 4), (-5, 0), (-4, -3), (4, -3))
THREES = (6, ((0, 1), (0, 3), (0, 5), (1, 2), (1, 4), (2, 3), (2, 5), (3, 4), (4, 5)))
PRISM = (6, ((0, 1), (0, 2), (0, 3), (1, 2), (1, 4), (2, 5), (3, 4), (3, 5), (4, 5)))
ALL_SIX = (6, pairs_of(6))


def shifts_and_turn(spots):
    """The motions of all spots across, up, and round (0, 0)."""
    return [((1, 0),) * len(spots), ((0, 1),) * len(spots), tuple([(-y, x) for x, y in spots])]


def put_together(motions, counts):
    """So many times each of the motions, together."""
    columns = zip(*[flat(motion) for motion in motions])
    row = [sum([count * number for count, number in zip(counts, column)]) for column in columns]
    return tuple(zip(row[::2], row[1::2]))


def with_number(pairs, joint, at, more):
    """The pairs with more added to one number."""
    rows = [list(pair) for pair in pairs]
    rows[joint][at] += more
    return tuple([tuple(row) for row in rows])


def others_of(frame):
    return [pair for pair in pairs_of(frame[0]) if pair not in frame[1]]


def kept_as_said(frame, spots, row):
    """Whether a paper's row, of the right form, holds, by the second reckoning."""
    one, other, bottom, weights = row
    return bottom >= 1 and come_to(frame[1], spots, weights) == come_to(((one, other),), spots, (bottom,))


class Grows(unittest.TestCase):
    def test_by_hand(self):
        spots, motion = ((1, 2), (4, -3), (0, 0)), ((5, 7), (-1, 2), (0, 0))
        self.assertEqual(grows(spots, motion, 0, 1), (1 - 4) * (5 + 1) + (2 + 3) * (7 - 2))
        self.assertEqual(grows(spots, motion, 0, 1), 7)
        self.assertEqual(grows(spots, motion, 0, 2), 19)
        self.assertEqual(grows(spots, motion, 1, 2), -10)

    def test_apart_is_above_nought_and_together_below(self):
        spots = ((0, 0), (3, 0))
        self.assertEqual(grows(spots, ((0, 0), (2, 9)), 0, 1), 6)
        self.assertEqual(grows(spots, ((0, 0), (-2, 9)), 0, 1), -6)
        self.assertEqual(grows(spots, ((0, 0), (0, 9)), 0, 1), 0)

    def test_either_way_round_and_with_itself(self):
        draw = random.Random(2)
        for _ in range(60):
            many = draw.randint(1, 6)
            spots, motion = drawn_spots(draw, many), drawn_pairs(draw, many, 50)
            for one, other in itertools.product(range(many), repeat=2):
                told = grows(spots, motion, one, other)
                self.assertIs(type(told), int)
                self.assertEqual(told, growth(spots, motion, one, other))
                self.assertEqual(told, grows(spots, motion, other, one))
            self.assertEqual(grows(spots, motion, 0, 0), 0)

    def test_joints_on_one_spot_are_kept_by_any_motion(self):
        self.assertEqual(grows(((3, 4), (3, 4)), ((HUGE, 5), (-HUGE, 77)), 0, 1), 0)

    def test_edges(self):
        self.assertEqual(grows(((-999, 999), (999, -999)), ((-1, 1), (1, -1)), 0, 1), 1998 * 2 * 2)
        self.assertEqual(grows(((5, 5),), ((HUGE, HUGE),), 0, 0), 0)

    def test_numbers_of_a_hundred_figures(self):
        spots = ((-999, 0), (999, 1))
        self.assertEqual(grows(spots, ((HUGE, -HUGE), (-HUGE, HUGE)), 0, 1), -1998 * 2 * HUGE + 2 * HUGE)
        self.assertEqual(grows(spots, ((HUGE, 0), (HUGE - 1, 0)), 0, 1), -1998)

    def test_by_name_in_another_order(self):
        self.assertEqual(grows(other=1, motion=((5, 7), (-1, 2)), one=0, spots=((1, 2), (4, -3))), 7)


class Moves(unittest.TestCase):
    def yes(self, frame, spots, thing):
        self.assertIs(moves(frame, spots, thing), True, thing)

    def no(self, frame, spots, thing):
        self.assertIs(moves(frame, spots, thing), False, thing)

    def test_a_square_without_and_with_a_brace(self):
        self.yes(SQUARE, SQUARE_SPOTS, SHEAR)
        self.no(BRACED, SQUARE_SPOTS, SHEAR)
        self.no(SQUARE, SQUARE_SPOTS, ((0, 0), (0, 0), (1, 0), (2, 0)))
        self.no(SQUARE, SQUARE_SPOTS, ((0, 0), (0, 0), (1, 0), (1, 1)))

    def test_each_bar_counts(self):
        spots = ((0, 0), (5, 1), (2, 7), (-3, 4))
        for one, other in pairs_of(4):
            motion = [(0, 0)] * 4
            motion[one] = (1, 1)
            apart = growth(spots, motion, one, other)
            self.assertNotEqual(apart, 0)
            self.no((4, ((one, other),)), spots, tuple(motion))

    def test_stiff_motions_move_any_frame(self):
        draw = random.Random(3)
        for frame, spots in drawn_cases(3, 80):
            counts = [draw.randint(-9, 9) for _ in range(3)]
            self.yes(frame, spots, put_together(shifts_and_turn(spots), counts))
            self.yes(frame, spots, ((0, 0),) * frame[0])

    def test_drawn_motions(self):
        draw = random.Random(4)
        for frame, spots in all_cases(4, 150):
            motion = drawn_pairs(draw, frame[0], 1)
            kept = all([growth(spots, motion, one, other) == 0 for one, other in frame[1]])
            self.assertIs(moves(frame, spots, motion), kept)

    def test_no_bars_and_bars_of_no_length(self):
        self.yes((1, ()), ((5, 5),), ((7, -8),))
        self.yes((3, ()), ((0, 0), (1, 0), (0, 1)), ((1, 2), (3, 4), (5, 6)))
        self.yes((2, ((0, 1),)), ((3, 4), (3, 4)), ((1, 2), (3, 4)))
        self.yes(ALL_SIX, ((-999, 999),) * 6, ((1, 2), (3, 4), (5, 6), (7, 8), (9, 0), (-1, -2)))

    def test_numbers_of_a_hundred_figures(self):
        far = ((0, 0), (0, 0), (HUGE, 0), (HUGE, 0))
        self.yes(SQUARE, SQUARE_SPOTS, far)
        self.no(BRACED, SQUARE_SPOTS, far)
        self.no(SQUARE, SQUARE_SPOTS, ((0, 0), (0, 0), (HUGE, 0), (HUGE - 1, 0)))
        self.yes(BRACED, SQUARE_SPOTS, ((HUGE, -HUGE),) * 4)

    def test_a_pair_for_each_joint(self):
        for many in range(1, 7):
            for pairs in range(9):
                self.assertIs(moves((many, ()), ((1, 2),) * many, ((0, 0),) * pairs), pairs == many)

    def test_pairs_too_short_or_too_long(self):
        still = ((0, 0),) * 4
        for at in range(4):
            for pair in ((), (0,), (0, 0, 0)):
                self.no(SQUARE, SQUARE_SPOTS, still[:at] + (pair,) + still[at + 1:])
        self.no((2, ()), ((0, 0), (1, 1)), (0, 0))

    def test_wrong_kinds_at_each_place(self):
        for motion in (((0, 0),) * 4, ((1, 1),) * 4, SHEAR):
            self.yes(SQUARE, SQUARE_SPOTS, motion)
            for thing in wrong_kinds(motion):
                self.no(SQUARE, SQUARE_SPOTS, thing)
        for thing in wrong_kinds(((0, 1), (1, 0))):
            self.no((2, ()), ((0, 0), (1, 1)), thing)

    def test_anything(self):
        for thing in anythings():
            self.no(SQUARE, SQUARE_SPOTS, thing)
            self.no((1, ()), ((0, 0),), thing)
            self.no((2, ()), ((0, 0), (1, 1)), thing)
            self.no((1, ()), ((0, 0),), (thing,))
            self.no((2, ()), ((0, 0), (1, 1)), ((0, 0), thing))
        self.no((2, ()), ((0, 0), (1, 1)), ("00", "00"))

    def test_what_is_asked_about_stays(self):
        thing = [[0, 0], (0, 0)]
        moves((2, ()), ((0, 0), (1, 1)), thing)
        moves((1, ()), ((0, 0),), (thing,))
        self.assertEqual(thing, [[0, 0], (0, 0)])

    def test_by_name_in_another_order(self):
        self.assertIs(moves(thing=SHEAR, spots=SQUARE_SPOTS, frame=SQUARE), True)
        self.assertIs(moves(spots=SQUARE_SPOTS, thing=SHEAR, frame=BRACED), False)


class IsStiff(unittest.TestCase):
    def agrees(self, spots, motion):
        """What is told agrees with the second reckoning, which is told."""
        base = [flat(row) for row in shifts_and_turn(spots)]
        stiff = rank_of(base + [flat(motion)]) == rank_of(base)
        self.assertIs(is_stiff(spots, motion), stiff, (spots, motion))
        return stiff

    def test_one_joint(self):
        for motion in (((0, 0),), ((5, -7),), ((HUGE, -HUGE),)):
            self.assertIs(is_stiff(((0, 0),), motion), True)
            self.assertIs(is_stiff(((-999, 999),), motion), True)

    def test_all_spots_on_one(self):
        for many in range(2, 7):
            self.assertIs(is_stiff(((3, -4),) * many, ((8, 9),) * many), True)
            for joint, at in itertools.product(range(many), range(2)):
                self.assertIs(is_stiff(((3, -4),) * many, with_number(((8, 9),) * many, joint, at, 1)), False)

    def test_in_line(self):
        spots = ((0, 0), (1, 0), (3, 0))
        self.assertIs(is_stiff(spots, ((0, 0), (0, 1), (0, 3))), True)
        self.assertIs(is_stiff(spots, ((2, 5), (2, 6), (2, 8))), True)
        self.assertIs(is_stiff(spots, ((0, 0), (0, 1), (0, 0))), False)
        self.assertIs(is_stiff(spots, ((0, 0), (1, 1), (0, 3))), False)

    def test_two_of_three_on_one_another(self):
        spots = ((0, 0), (0, 0), (2, 0))
        self.assertIs(is_stiff(spots, ((1, 1), (1, 1), (1, 5))), True)
        self.assertIs(is_stiff(spots, ((1, 1), (1, 2), (1, 5))), False)
        self.assertIs(is_stiff(spots, ((1, 1), (1, 1), (2, 5))), False)

    def test_c_may_be_more_than_one(self):
        self.assertIs(is_stiff(((0, 0), (2, 0), (4, 2)), ((0, 0), (0, 1), (-1, 2))), True)
        self.assertIs(is_stiff(((0, 0), (7, 0)), ((0, 0), (0, 1))), True)
        self.assertIs(is_stiff(((0, 0), (7, 0), (0, 7)), ((0, 0), (0, 1), (-1, 0))), True)
        self.assertIs(is_stiff(((0, 0), (7, 0), (0, 8)), ((0, 0), (0, 1), (-1, 0))), False)

    def test_a_motion_may_keep_all_and_not_be_stiff(self):
        spots, motion = ((0, 0), (1, 0), (3, 0)), ((0, 0), (0, 1), (0, 0))
        self.assertIs(moves(TRIANGLE, spots, motion), True)
        self.assertIs(is_stiff(spots, motion), False)

    def test_turned_the_wrong_way_made_greater_or_less(self):
        spots = ((0, 0), (2, 0), (0, 2))
        self.assertIs(is_stiff(spots, ((0, 0), (0, 1), (-1, 0))), True)
        self.assertIs(is_stiff(spots, ((0, 0), (0, -1), (1, 0))), True)
        self.assertIs(is_stiff(spots, ((0, 0), (0, 1), (1, 0))), False)
        self.assertIs(is_stiff(spots, ((0, 0), (1, 0), (0, 1))), False)

    def test_drawn(self):
        draw = random.Random(6)
        told = []
        for _ in range(250):
            many = draw.randint(1, 6)
            spots = drawn_spots(draw, many)
            far = draw.choice((1, 9, HUGE))
            motion = put_together(shifts_and_turn(spots), [draw.randint(-far, far) for _ in range(3)])
            self.assertIs(is_stiff(spots, motion), True)
            spoilt = with_number(motion, draw.randrange(many), draw.randrange(2), draw.choice((-1, 1)))
            told.append(self.agrees(spots, spoilt))
            told.append(self.agrees(spots, drawn_pairs(draw, many, 1)))
        self.assertIn(True, told)
        self.assertIn(False, told)

    def test_every_place_spoilt(self):
        spots = ((0, 0), (4, 1), (2, 7), (-3, 5), (999, -999), (2, 7))
        motion = put_together(shifts_and_turn(spots), (3, -4, HUGE))
        self.assertIs(is_stiff(spots, motion), True)
        for joint, at in itertools.product(range(6), range(2)):
            self.assertIs(is_stiff(spots, with_number(motion, joint, at, 1)), False)

    def test_by_name_in_another_order(self):
        self.assertIs(is_stiff(motion=((0, 0), (0, 1)), spots=((0, 0), (2, 0))), True)
        self.assertIs(is_stiff(motion=((0, 0), (1, 1)), spots=((0, 0), (2, 0))), False)


class Fastness(unittest.TestCase):
    def fast(self, frame, spots):
        """The frame is fast, by a paper that holds, and nothing moves it."""
        self.assertIs(is_fast(frame, spots), True, (frame, spots))
        self.assertIsNone(moving(frame, spots))
        paper = fast_paper(frame, spots)
        self.assertIs(type(paper), list)
        self.assertIs(fast_shown(frame, spots, paper), True)
        self.assertEqual([row[:2] for row in paper], others_of(frame))
        for row in paper:
            self.assertIs(type(row), tuple)
            self.assertEqual(len(row[3]), len(frame[1]))
            self.assertEqual({type(number) for number in row[:3] + row[3]}, {int})
            self.assertIs(kept_as_said(frame, spots, row), True)

    def loose(self, frame, spots):
        """A motion moves the frame, without keeping some two joints, and there is no paper."""
        self.assertIs(is_fast(frame, spots), False, (frame, spots))
        self.assertIsNone(fast_paper(frame, spots))
        motion = moving(frame, spots)
        self.assertIs(moves(frame, spots, motion), True)
        self.assertEqual({type(pair) for pair in motion}, {tuple})
        self.assertEqual({type(number) for number in flat(motion)}, {int})
        for one, other in frame[1]:
            self.assertEqual(growth(spots, motion, one, other), 0)
        self.assertTrue(any([growth(spots, motion, *pair) != 0 for pair in pairs_of(frame[0])]))


class Fast(Fastness):
    def test_a_square_without_and_with_a_brace(self):
        self.loose(SQUARE, SQUARE_SPOTS)
        self.fast(BRACED, SQUARE_SPOTS)
        self.fast((4, pairs_of(4)), SQUARE_SPOTS)

    def test_one_joint_and_two(self):
        self.fast((1, ()), ((4, 5),))
        self.assertEqual(fast_paper((1, ()), ((4, 5),)), [])
        self.loose((2, ()), ((0, 0), (1, 0)))
        self.fast((2, ((0, 1),)), ((0, 0), (1, 0)))

    def test_joints_on_one_another(self):
        self.fast((2, ()), ((3, 4), (3, 4)))
        self.fast((2, ((0, 1),)), ((3, 4), (3, 4)))
        self.fast((3, ((0, 1),)), ((0, 0), (0, 0), (0, 0)))

    def test_two_of_three_on_one_spot_need_a_bar_each(self):
        self.loose((3, ((0, 2),)), ((0, 0), (0, 0), (3, 1)))
        self.loose((3, ((0, 1), (0, 2))), ((0, 0), (0, 0), (3, 1)))
        self.fast((3, ((0, 2), (1, 2))), ((0, 0), (0, 0), (3, 1)))
        self.fast((3, ((0, 1), (1, 2))), ((0, 0), (3, 1), (0, 0)))

    def test_all_spots_on_one(self):
        for many in range(1, 7):
            self.fast((many, ()), ((-7, 8),) * many)
            self.fast((many, pairs_of(many)), ((999, 999),) * many)

    def test_in_line(self):
        self.fast((3, ((0, 1), (1, 2))), ((0, 0), (1, 0), (3, 0)))
        self.fast(TRIANGLE, ((0, 0), (1, 0), (3, 0)))
        self.loose((3, ((0, 1),)), ((0, 0), (1, 0), (3, 0)))
        self.loose((3, ((0, 1), (1, 2))), ((0, 0), (1, 0), (3, 1)))
        self.fast((6, tuple([(at, at + 1) for at in range(5)])), tuple([(3 * at, -2 * at) for at in range(6)]))

    def test_triangles_put_together(self):
        self.fast(TRIANGLE, ((0, 0), (4, 0), (0, 3)))
        self.fast((4, ((0, 1), (0, 2), (1, 2), (1, 3), (2, 3))), ((0, 0), (4, 0), (0, 3), (5, 5)))
        self.loose((5, ((0, 1), (0, 2), (1, 2), (2, 3), (2, 4), (3, 4))), ((0, 0), (4, 0), (0, 3), (5, 5), (-1, 7)))
        self.loose((6, ((0, 1), (0, 2), (1, 2), (3, 4), (3, 5), (4, 5))), CIRCLE)

    def test_a_joint_by_two_bars_in_line_and_not_in_line(self):
        frame = (4, ((0, 1), (0, 2), (0, 3), (1, 2), (1, 3)))
        self.loose(frame, ((0, 0), (6, 0), (1, 5), (2, 0)))
        self.loose(frame, ((0, 0), (6, 0), (1, 5), (-2, 0)))
        self.fast(frame, ((0, 0), (6, 0), (1, 5), (2, 1)))
        self.loose((4, TRIANGLE[1] + ((2, 3),)), ((0, 0), (6, 0), (1, 5), (2, 1)))

    def test_too_many_bars_and_still_fast(self):
        self.fast((4, pairs_of(4)), ((0, 0), (5, 1), (2, 7), (-3, 4)))
        self.fast(ALL_SIX, CIRCLE)
        self.fast((5, pairs_of(5)), ((0, 0), (5, 1), (2, 7), (-3, 4), (999, -999)))

    def test_enough_bars_and_not_fast(self):
        spots = ((0, 0), (5, 1), (2, 7), (-3, 4), (9, 9))
        self.loose((5, pairs_of(4) + ((3, 4),)), spots)
        self.fast((5, ((0, 1), (0, 2), (0, 3), (1, 2), (1, 3), (2, 4), (3, 4))), spots)
        self.loose((6, pairs_of(5)), CIRCLE)

    def test_enough_bars_and_not_fast_at_some_spots_only(self):
        self.loose(THREES, CIRCLE)
        self.fast(THREES, CIRCLE[:5] + ((7, -3),))
        self.loose(PRISM, ((0, 0), (4, 0), (1, 3), (0, 10), (4, 10), (1, 13)))
        self.fast(PRISM, ((0, 0), (4, 0), (1, 3), (1, 10), (4, 12), (2, 13)))

    def test_no_bars_and_all_bars(self):
        for many in range(2, 7):
            for spots in (CIRCLE, ((-999, -999), (999, 999), (999, -999), (-999, 999), (0, 0), (998, 999))):
                self.loose((many, ()), spots[:many])
                self.fast((many, pairs_of(many)), spots[:many])
                self.assertEqual(fast_paper((many, pairs_of(many)), spots[:many]), [])

    def test_just_one_of_both_by_a_second_reckoning(self):
        told = []
        for frame, spots in all_cases(7, 400):
            fast = bars_rank(spots, frame[1]) == bars_rank(spots, pairs_of(frame[0]))
            told.append(fast)
            (self.fast if fast else self.loose)(frame, spots)
        self.assertGreater(min(told.count(True), told.count(False)), 100)

    def test_more_bars_never_make_it_loose(self):
        for frame, spots in drawn_cases(8, 60):
            if is_fast(frame, spots):
                for pair in others_of(frame):
                    self.fast((frame[0], tuple(sorted(frame[1] + (pair,)))), spots)

    def test_told_alike_put_elsewhere_greater_turned_mirrored_and_numbered_otherwise(self):
        draw = random.Random(9)
        for frame, spots in drawn_cases(9, 80):
            spots = tuple([(x // 11, y // 11) for x, y in spots])
            fast = is_fast(frame, spots)
            for like in likenesses(spots):
                (self.fast if fast else self.loose)(frame, like)
            order = draw.sample(range(frame[0]), frame[0])
            (self.fast if fast else self.loose)(*numbered_otherwise(frame, spots, order))

    def test_a_paper_outlasts_being_put_elsewhere_greater_turned_and_mirrored(self):
        for frame, spots in drawn_cases(10, 60):
            spots = tuple([(x // 11, y // 11) for x, y in spots])
            paper = fast_paper(frame, spots)
            if paper is not None:
                for like in likenesses(spots):
                    self.assertIs(fast_shown(frame, like, paper), True)

    def test_asked_again_it_is_answered_the_same(self):
        for frame, spots in drawn_cases(11, 40):
            self.assertEqual(moving(frame, spots), moving(frame, spots))
            self.assertEqual(fast_paper(frame, spots), fast_paper(frame, spots))

    def test_the_paper_is_the_askers_own(self):
        told = fast_paper(BRACED, SQUARE_SPOTS)
        second = fast_paper(BRACED, SQUARE_SPOTS)
        first = copy.deepcopy(told)
        told[0] = None
        told.append(9)
        self.assertEqual(second, first)
        self.assertEqual(fast_paper(BRACED, SQUARE_SPOTS), first)
        fast_paper(TRIANGLE, SQUARE_SPOTS[:3]).append(5)
        self.assertEqual(fast_paper(TRIANGLE, SQUARE_SPOTS[:3]), [])

    def test_by_name_in_another_order(self):
        self.assertIs(is_fast(spots=SQUARE_SPOTS, frame=BRACED), True)
        self.assertIs(is_fast(spots=SQUARE_SPOTS, frame=SQUARE), False)
        self.assertEqual(moving(spots=SQUARE_SPOTS, frame=SQUARE), moving(SQUARE, SQUARE_SPOTS))
        self.assertEqual(fast_paper(spots=SQUARE_SPOTS, frame=BRACED), fast_paper(BRACED, SQUARE_SPOTS))


class FastShown(unittest.TestCase):
    def yes(self, frame, spots, paper):
        self.assertIs(fast_shown(frame, spots, paper), True, paper)

    def no(self, frame, spots, paper):
        self.assertIs(fast_shown(frame, spots, paper), False, paper)

    def papers(self, seed, count):
        """Frames and spots with a paper that has a row at least."""
        cases = [(frame, spots, fast_paper(frame, spots)) for frame, spots in all_cases(seed, count)]
        return [case for case in cases if case[2]]

    def test_by_hand(self):
        # The other brace of a square: all sides once, less the brace.
        self.yes(BRACED, SQUARE_SPOTS, [(1, 3, 1, (1, -1, 1, 1, 1))])
        self.no(BRACED, SQUARE_SPOTS, [(1, 3, 1, (1, 1, 1, 1, 1))])
        self.no(BRACED, SQUARE_SPOTS, [(1, 3, 1, (-1, 1, -1, -1, -1))])
        self.yes((3, ((0, 1), (1, 2))), ((0, 0), (1, 0), (3, 0)), [(0, 2, 2, (6, 3))])
        self.no((3, ((0, 1), (1, 2))), ((0, 0), (1, 0), (3, 0)), [(0, 2, 1, (6, 3))])
        self.yes((2, ()), ((5, 5), (5, 5)), [(0, 1, 1, ())])
        self.yes((2, ()), ((5, 5), (5, 5)), [(0, 1, HUGE, ())])
        self.yes((1, ()), ((5, 5),), [])
        self.yes(TRIANGLE, SQUARE_SPOTS[:3], [])

    def test_no_paper_for_what_is_loose(self):
        self.no(SQUARE, SQUARE_SPOTS, [])
        self.no(SQUARE, SQUARE_SPOTS, [(0, 2, 1, (0, 0, 0, 0)), (1, 3, 1, (0, 0, 0, 0))])
        self.no(SQUARE, SQUARE_SPOTS, [(0, 2, 1, (1, 1, 1, 1)), (1, 3, 1, (1, 1, 1, 1))])
        self.no((2, ()), ((0, 0), (1, 0)), [(0, 1, 1, ())])
        self.no(SQUARE, SQUARE_SPOTS, fast_paper(SQUARE, SQUARE_SPOTS))

    def test_bottom_is_from_one_on(self):
        spots = ((0, 0), (1, 0), (3, 0))
        for count in (1, 2, HUGE, 0, -1, -HUGE):
            row = (0, 2, 2 * count, (6 * count, 3 * count))
            self.assertIs(fast_shown((3, ((0, 1), (1, 2))), spots, [row]), count >= 1)
            self.assertIs(fast_shown((2, ()), ((5, 5), (5, 5)), [(0, 1, count, ())]), count >= 1)

    def test_rows_so_many_times_or_with_weights_that_balance_still_hold(self):
        for frame, spots, paper in self.papers(12, 150):
            for count in (2, 7, HUGE):
                self.yes(frame, spots, [
                    (one, other, count * bottom, tuple([count * weight for weight in weights]))
                    for one, other, bottom, weights in paper
                ])
            for more in balances(frame, spots):
                self.yes(frame, spots, [
                    (one, other, bottom, tuple([weight - HUGE * beside for weight, beside in zip(weights, more)]))
                    for one, other, bottom, weights in paper
                ])

    def test_spoilt_at_any_place(self):
        spoilt = 0
        for frame, spots, paper in self.papers(13, 120):
            for at, (one, other, bottom, weights) in enumerate(paper):
                rows = [(one, other, changed, weights) for changed in (bottom + 1, bottom - 1, -bottom, 0)]
                for place in range(len(weights)):
                    for more in (1, -1, HUGE):
                        row = weights[:place] + (weights[place] + more,) + weights[place + 1:]
                        rows.append((one, other, bottom, row))
                for row in rows:
                    # Weights of bars of no length are free, and so is the bottom of a pair of none.
                    holds = kept_as_said(frame, spots, row)
                    self.assertIs(fast_shown(frame, spots, paper[:at] + [row] + paper[at + 1:]), holds)
                    spoilt += not holds
        self.assertGreater(spoilt, 1000)

    def test_rows_out_of_order_twice_or_missing(self):
        for frame, spots, paper in self.papers(14, 60):
            for thing in wrong_lengths(paper):
                self.no(frame, spots, thing)
            if len(paper) > 1:
                self.no(frame, spots, paper[::-1])
                self.no(frame, spots, paper[:1] * len(paper))
                self.no(frame, spots, [paper[1], paper[0]] + paper[2:])

    def test_pairs_the_other_way_round_or_of_other_joints(self):
        row = fast_paper(BRACED, SQUARE_SPOTS)[0]
        for one, other in itertools.product(range(-4, 5), repeat=2):
            self.assertIs(fast_shown(BRACED, SQUARE_SPOTS, [(one, other) + row[2:]]), (one, other) == (1, 3))
        for one, other in ((HUGE, 3), (1, HUGE), (-HUGE, HUGE)):
            self.no(BRACED, SQUARE_SPOTS, [(one, other) + row[2:]])

    def test_rows_and_weights_too_short_or_too_long(self):
        row = fast_paper(BRACED, SQUARE_SPOTS)[0]
        for wrong in wrong_lengths(row):
            self.no(BRACED, SQUARE_SPOTS, [wrong])
        for wrong in wrong_lengths(row[3]):
            self.no(BRACED, SQUARE_SPOTS, [row[:3] + (wrong,)])
        self.no((2, ()), ((5, 5), (5, 5)), [(0, 1, 1, (0,))])
        self.no((2, ((0, 1),)), ((5, 5), (5, 5)), [(0, 1, 1, (0,))])

    def test_wrong_kinds_at_each_place(self):
        frame, spots = (4, ((0, 2), (0, 3), (1, 2), (1, 3), (2, 3))), SQUARE_SPOTS
        paper = fast_paper(frame, spots)
        self.assertEqual(paper[0][:3], (0, 1, 1))
        self.assertIn(1, paper[0][3])
        for thing in wrong_kinds(paper):
            self.no(frame, spots, thing)
        for thing in wrong_kinds([(0, 1, 1, (0,)), (0, 2, 1, (1,))]):
            self.no((3, ((1, 2),)), ((4, 4), (4, 4), (4, 4)), thing)

    def test_truths_that_are_equal_to_numbers(self):
        spots = ((4, 4),) * 3
        self.yes((3, ((1, 2),)), spots, [(0, 1, 1, (0,)), (0, 2, 1, (1,))])
        self.no((3, ((1, 2),)), spots, [(False, 1, 1, (0,)), (0, 2, 1, (1,))])
        self.no((3, ((1, 2),)), spots, [(0, True, 1, (0,)), (0, 2, 1, (1,))])
        self.no((3, ((1, 2),)), spots, [(0, 1, True, (0,)), (0, 2, 1, (1,))])
        self.no((3, ((1, 2),)), spots, [(0, 1, 1, (False,)), (0, 2, 1, (1,))])
        self.no((3, ((1, 2),)), spots, [(0, 1, 1, (0,)), (0, 2, 1, (True,))])

    def test_anything(self):
        for thing in anythings():
            self.no(BRACED, SQUARE_SPOTS, thing)
            self.no(SQUARE, SQUARE_SPOTS, thing)
            self.no((2, ()), ((5, 5), (5, 5)), thing)
            self.no((2, ()), ((5, 5), (5, 5)), [thing])
            self.no((2, ()), ((5, 5), (5, 5)), [(0, 1, 1, thing)])
            self.assertIs(fast_shown((1, ()), ((5, 5),), thing), thing == [])
        for thing in ((), "", None, 0, False, nested(tuple, 10), nested(list, 9)):
            self.no((1, ()), ((5, 5),), thing)
            self.no(BRACED, SQUARE_SPOTS, [thing])

    def test_what_is_asked_about_stays(self):
        paper = fast_paper(BRACED, SQUARE_SPOTS)
        for thing in (paper, [list(paper[0])], paper + [[1, 3, [None]]]):
            before = copy.deepcopy(thing)
            fast_shown(BRACED, SQUARE_SPOTS, thing)
            self.assertEqual(thing, before)

    def test_by_name_in_another_order(self):
        paper = fast_paper(BRACED, SQUARE_SPOTS)
        self.assertIs(fast_shown(paper=paper, spots=SQUARE_SPOTS, frame=BRACED), True)
        self.assertIs(fast_shown(paper=[], frame=BRACED, spots=SQUARE_SPOTS), False)


if __name__ == "__main__":
    unittest.main()
