"""Weights: what balances, which bars are sound, which are needed."""

import copy
import itertools
import math
import random
import unittest

from stayfast.motions import grows, moving
from stayfast.weights import balance, balances, needed, rank, sound
from tests.anything import anythings, wrong_kinds, wrong_lengths
from tests.drawn import (
    HUGE, all_cases, bars_rank, come_to, drawn_cases, drawn_pairs, likenesses, numbered_otherwise, pairs_of,
)

SQUARE = (4, ((0, 1), (0, 3), (1, 2), (2, 3)))
ALL_FOUR = (4, pairs_of(4))
ALL_SIX = (6, pairs_of(6))
SQUARE_SPOTS = ((0, 0), (4, 0), (4, 3), (0, 3))
SQUARE_WEIGHTS = (1, -1, 1, 1, -1, 1)
TRIANGLE = (3, ((0, 1), (0, 2), (1, 2)))
IN_LINE = ((0, 0), (1, 0), (3, 0))
CIRCLE = ((5, 0), (3, 4), (-3, 4), (-5, 0), (-4, -3), (4, -3))


def balanced(frame, spots, weights):
    """Whether the weights balance, by the second reckoning."""
    return set(come_to(frame[1], spots, weights)) == {(0, 0)}


def first_greatest_lot(frame, spots):
    """The first of the greatest lots of sound bars, by a look at all lots of bars."""
    bars = frame[1]
    lots = [lot for size in range(len(bars) + 1) for lot in itertools.combinations(bars, size)]
    right = [lot for lot in lots if bars_rank(spots, lot) == len(lot)]
    greatest = max([len(lot) for lot in right])
    return min([lot for lot in right if len(lot) == greatest])


def few_bars(cases, most):
    return [(frame, spots) for frame, spots in cases if len(frame[1]) <= most]


class Balance(unittest.TestCase):
    def yes(self, frame, spots, thing):
        self.assertIs(balance(frame, spots, thing), True, thing)

    def no(self, frame, spots, thing):
        self.assertIs(balance(frame, spots, thing), False, thing)

    def test_by_hand(self):
        self.yes(ALL_FOUR, SQUARE_SPOTS, SQUARE_WEIGHTS)
        self.yes(ALL_FOUR, SQUARE_SPOTS, tuple([-3 * weight for weight in SQUARE_WEIGHTS]))
        self.no(ALL_FOUR, SQUARE_SPOTS, (1, 1, 1, 1, 1, 1))
        self.no(SQUARE, SQUARE_SPOTS, (1, 1, 1, 1))
        self.no(SQUARE, SQUARE_SPOTS, (1, -1, -1, 1))
        self.yes(TRIANGLE, IN_LINE, (6, -2, 3))
        self.no(TRIANGLE, IN_LINE, (6, 2, 3))

    def test_both_numbers_and_each_joint_count(self):
        self.no((2, ((0, 1),)), ((0, 0), (1, 0)), (1,))
        self.no((2, ((0, 1),)), ((0, 0), (0, 1)), (1,))
        self.no((3, ((0, 1), (1, 2))), IN_LINE, (2, 1))
        self.no((3, ((1, 2),)), ((0, 0), (1, 0), (0, 1)), (1,))

    def test_noughts_balance(self):
        for frame, spots in drawn_cases(20, 60):
            self.yes(frame, spots, (0,) * len(frame[1]))

    def test_no_bars_and_bars_of_no_length(self):
        self.yes((1, ()), ((4, 5),), ())
        self.yes((6, ()), CIRCLE, ())
        self.no((1, ()), ((4, 5),), (0,))
        for weight in (1, -7, HUGE):
            self.yes((2, ((0, 1),)), ((3, 4), (3, 4)), (weight,))
        self.yes(ALL_SIX, ((-999, 999),) * 6, tuple(range(15)))

    def test_drawn_weights(self):
        draw = random.Random(21)
        told = []
        for frame, spots in all_cases(21, 200):
            weights = tuple([draw.randint(-1, 1) for _ in frame[1]])
            told.append(balanced(frame, spots, weights))
            self.assertIs(balance(frame, spots, weights), told[-1])
        self.assertIn(False, told)

    def test_numbers_of_a_hundred_figures(self):
        far = tuple([HUGE * weight for weight in SQUARE_WEIGHTS])
        self.yes(ALL_FOUR, SQUARE_SPOTS, far)
        for at in range(6):
            self.no(ALL_FOUR, SQUARE_SPOTS, far[:at] + (far[at] - 1,) + far[at + 1:])
        corners = ((-999, -999), (999, -999), (999, 999), (-999, 999))
        self.yes(ALL_FOUR, corners, far)

    def test_a_weight_for_each_bar(self):
        for bars in range(7):
            for many in range(9):
                self.assertIs(balance((4, pairs_of(4)[:bars]), SQUARE_SPOTS, (0,) * many), many == bars)
        for thing in wrong_lengths(SQUARE_WEIGHTS):
            self.no(ALL_FOUR, SQUARE_SPOTS, thing)

    def test_wrong_kinds_at_each_place(self):
        for weights in (SQUARE_WEIGHTS, (0,) * 6):
            for thing in wrong_kinds(weights):
                self.no(ALL_FOUR, SQUARE_SPOTS, thing)
        for thing in wrong_kinds((0, 1)):
            self.no((3, ((0, 1), (1, 2))), ((5, 5),) * 3, thing)

    def test_anything(self):
        for thing in anythings():
            self.no(ALL_FOUR, SQUARE_SPOTS, thing)
            self.no((1, ()), ((0, 0),), thing)
            self.no((3, ((0, 1), (1, 2))), ((5, 5),) * 3, (0, (thing,)))
            self.no((3, ((0, 1), (1, 2))), ((5, 5),) * 3, (0, [thing]))
        self.no((3, ((0, 1), (1, 2))), ((5, 5),) * 3, "00")

    def test_what_is_asked_about_stays(self):
        thing = [0, [1], (2, [3])]
        balance(TRIANGLE, IN_LINE, thing)
        balance(TRIANGLE, IN_LINE, (0, 0, thing))
        self.assertEqual(thing, [0, [1], (2, [3])])

    def test_by_name_in_another_order(self):
        self.assertIs(balance(thing=SQUARE_WEIGHTS, spots=SQUARE_SPOTS, frame=ALL_FOUR), True)
        self.assertIs(balance(spots=SQUARE_SPOTS, thing=(1,) * 6, frame=ALL_FOUR), False)

    def test_weights_that_balance_and_motions_do_no_work_on_one_another(self):
        draw = random.Random(22)
        for frame, spots in all_cases(22, 120):
            motions = [drawn_pairs(draw, frame[0], 9), drawn_pairs(draw, frame[0], HUGE)]
            for weights in balances(frame, spots):
                for motion in motions:
                    each = [w * grows(spots, motion, *bar) for w, bar in zip(weights, frame[1])]
                    self.assertEqual(sum(each), 0)


class Sound(unittest.TestCase):
    def test_by_hand(self):
        self.assertEqual(sound(SQUARE, SQUARE_SPOTS), SQUARE[1])
        self.assertEqual(sound(ALL_FOUR, SQUARE_SPOTS), ((0, 1), (0, 2), (0, 3), (1, 2), (1, 3)))
        self.assertEqual(sound(TRIANGLE, ((0, 0), (4, 0), (0, 3))), TRIANGLE[1])
        self.assertEqual(sound(TRIANGLE, IN_LINE), ((0, 1), (0, 2)))
        self.assertEqual(sound(TRIANGLE, ((0, 0), (0, 0), (1, 0))), ((0, 2), (1, 2)))

    def test_none_at_all(self):
        self.assertEqual(sound((1, ()), ((4, 5),)), ())
        self.assertEqual(sound((6, ()), CIRCLE), ())
        self.assertEqual(sound(ALL_SIX, ((-999, 999),) * 6), ())
        self.assertEqual(rank((1, ()), ((4, 5),)), 0)
        self.assertEqual(rank(ALL_SIX, ((-999, 999),) * 6), 0)

    def test_by_all_lots_of_bars(self):
        for frame, spots in few_bars(all_cases(23, 200), 7):
            told = sound(frame, spots)
            self.assertIs(type(told), tuple)
            self.assertEqual(told, first_greatest_lot(frame, spots), (frame, spots))

    def test_rank_by_a_second_reckoning(self):
        for frame, spots in all_cases(24, 200):
            told = rank(frame, spots)
            self.assertIs(type(told), int)
            self.assertEqual(told, bars_rank(spots, frame[1]))
            self.assertEqual(told, len(sound(frame, spots)))
            self.assertEqual(bars_rank(spots, sound(frame, spots)), told)

    def test_all_bars_of_six_joints(self):
        self.assertEqual(rank(ALL_SIX, CIRCLE), 9)
        self.assertEqual(rank(ALL_SIX, tuple([(at, 2 * at) for at in range(6)])), 5)
        self.assertEqual(rank(ALL_SIX, ((-999, -999), (999, 999), (999, -999), (-999, 998), (0, 1), (998, 3))), 9)

    def test_each_bar_left_out_is_not_sound_with_those_taken_ahead(self):
        for frame, spots in drawn_cases(25, 150):
            told = sound(frame, spots)
            for bar in frame[1]:
                ahead = [taken for taken in told if taken < bar]
                self.assertIs(bars_rank(spots, ahead + [bar]) == len(ahead) + 1, bar in told)

    def test_by_name_in_another_order(self):
        self.assertEqual(sound(spots=IN_LINE, frame=TRIANGLE), ((0, 1), (0, 2)))
        self.assertEqual(rank(spots=IN_LINE, frame=TRIANGLE), 2)


class Balances(unittest.TestCase):
    def test_by_hand(self):
        self.assertEqual(balances(SQUARE, SQUARE_SPOTS), [])
        self.assertEqual(balances(ALL_FOUR, SQUARE_SPOTS), [SQUARE_WEIGHTS])
        self.assertEqual(balances(TRIANGLE, IN_LINE), [(6, -2, 3)])
        self.assertEqual(balances(TRIANGLE, ((0, 0), (0, 0), (1, 0))), [(1, 0, 0)])
        self.assertEqual(balances(TRIANGLE, ((2, 2),) * 3), [(1, 0, 0), (0, 1, 0), (0, 0, 1)])
        self.assertEqual(balances((1, ()), ((4, 5),)), [])

    def test_as_promised(self):
        for frame, spots in all_cases(26, 300):
            lot = sound(frame, spots)
            others = [bar for bar in frame[1] if bar not in lot]
            told = balances(frame, spots)
            self.assertIs(type(told), list)
            self.assertEqual(len(told), len(others))
            for bar, weights in zip(others, told):
                self.assertIs(type(weights), tuple)
                self.assertEqual({type(weight) for weight in weights}, {int})
                self.assertIs(balance(frame, spots, weights), True)
                self.assertTrue(balanced(frame, spots, weights))
                self.assertEqual(math.gcd(*weights), 1)
                self.assertGreater(weights[frame[1].index(bar)], 0)
                used = [at for at, weight in zip(frame[1], weights) if weight != 0]
                self.assertTrue(all([at == bar or (at in lot and at < bar) for at in used]), (frame, spots, weights))

    def test_all_bars_of_six_joints(self):
        self.assertEqual(len(balances(ALL_SIX, CIRCLE)), 6)
        self.assertEqual(len(balances(ALL_SIX, ((0, 0),) * 6)), 15)

    def test_the_list_is_the_askers_own(self):
        told = balances(ALL_FOUR, SQUARE_SPOTS)
        second = balances(ALL_FOUR, SQUARE_SPOTS)
        told[0] = None
        told.append(9)
        self.assertEqual(second, [SQUARE_WEIGHTS])
        self.assertEqual(balances(ALL_FOUR, SQUARE_SPOTS), [SQUARE_WEIGHTS])
        self.assertEqual(sound(ALL_FOUR, SQUARE_SPOTS), pairs_of(4)[:5])
        balances(SQUARE, SQUARE_SPOTS).append(5)
        self.assertEqual(balances(SQUARE, SQUARE_SPOTS), [])

    def test_by_name_in_another_order(self):
        self.assertEqual(balances(spots=IN_LINE, frame=TRIANGLE), [(6, -2, 3)])


class Needed(unittest.TestCase):
    def test_by_hand(self):
        self.assertEqual(needed(SQUARE, SQUARE_SPOTS), list(SQUARE[1]))
        self.assertEqual(needed(ALL_FOUR, SQUARE_SPOTS), [])
        self.assertEqual(needed(TRIANGLE, ((0, 0), (0, 0), (1, 0))), [(0, 2), (1, 2)])
        self.assertEqual(needed(TRIANGLE, IN_LINE), [])
        self.assertEqual(needed((5, pairs_of(4) + ((3, 4),)), SQUARE_SPOTS + ((9, 9),)), [(3, 4)])
        self.assertEqual(needed((1, ()), ((4, 5),)), [])
        self.assertEqual(needed((2, ((0, 1),)), ((3, 4), (3, 4))), [])

    def test_just_those_without_which_the_rank_is_less(self):
        for frame, spots in all_cases(27, 250):
            bars = frame[1]
            all_of_them = bars_rank(spots, bars)
            right = [bar for bar in bars if bars_rank(spots, [at for at in bars if at != bar]) < all_of_them]
            told = needed(frame, spots)
            self.assertIs(type(told), list)
            self.assertEqual(told, right, (frame, spots))

    def test_without_a_needed_bar_what_is_fast_is_not(self):
        seen = 0
        for frame, spots in drawn_cases(28, 100):
            if moving(frame, spots) is None:
                for gone in needed(frame, spots):
                    left = (frame[0], tuple([bar for bar in frame[1] if bar != gone]))
                    self.assertIsNotNone(moving(left, spots))
                    seen += 1
        self.assertGreater(seen, 20)

    def test_the_list_is_the_askers_own(self):
        told = needed(SQUARE, SQUARE_SPOTS)
        second = needed(SQUARE, SQUARE_SPOTS)
        told.clear()
        self.assertEqual(second, list(SQUARE[1]))
        self.assertEqual(needed(SQUARE, SQUARE_SPOTS), list(SQUARE[1]))
        needed(ALL_FOUR, SQUARE_SPOTS).append(5)
        self.assertEqual(needed(ALL_FOUR, SQUARE_SPOTS), [])

    def test_by_name_in_another_order(self):
        self.assertEqual(needed(spots=SQUARE_SPOTS, frame=SQUARE), list(SQUARE[1]))


class ToldAlike(unittest.TestCase):
    def test_put_elsewhere_greater_turned_and_mirrored(self):
        for frame, spots in drawn_cases(29, 100):
            spots = tuple([(x // 11, y // 11) for x, y in spots])
            for like in likenesses(spots):
                for tell in (sound, rank, balances, needed):
                    self.assertEqual(tell(frame, like), tell(frame, spots))

    def test_numbered_otherwise(self):
        draw = random.Random(30)
        for frame, spots in drawn_cases(30, 100):
            order = draw.sample(range(frame[0]), frame[0])
            other_frame, other_spots = numbered_otherwise(frame, spots, order)
            self.assertEqual(rank(other_frame, other_spots), rank(frame, spots))
            renamed = [tuple(sorted((order[one], order[other]))) for one, other in needed(frame, spots)]
            self.assertEqual(needed(other_frame, other_spots), sorted(renamed))

    def test_asked_again_it_is_answered_the_same(self):
        for frame, spots in drawn_cases(31, 40):
            before = copy.deepcopy((frame, spots))
            for tell in (sound, rank, balances, needed):
                self.assertEqual(tell(frame, spots), tell(frame, spots))
            self.assertEqual((frame, spots), before)


if __name__ == "__main__":
    unittest.main()
