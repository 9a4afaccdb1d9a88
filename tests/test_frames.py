"""Frames and spots: what is one, and what is told of them."""

import itertools
import unittest

from stayfast import errors
from stayfast.frames import JOINTS, are_spots, is_frame, joined, with_bar, without
from tests.anything import anythings, not_whole, plain_things
from tests.drawn import small_frames

HUGE = 10**100 - 1
ALL_PAIRS = tuple(itertools.combinations(range(6), 2))
FULL = (6, ALL_PAIRS)
SQUARE = (4, ((0, 1), (0, 2), (0, 3), (1, 2), (2, 3)))
SQUARE_SPOTS = ((0, 0), (4, 0), (4, 3), (0, 3))


class Numbers(unittest.TestCase):
    def test_joints_is_six(self):
        self.assertEqual(JOINTS, 6)
        self.assertIs(type(JOINTS), int)


class IsFrame(unittest.TestCase):
    def yes(self, thing):
        self.assertIs(is_frame(thing), True, thing)

    def no(self, thing):
        self.assertIs(is_frame(thing), False, thing)

    def test_ordinary_frames(self):
        self.yes(SQUARE)
        self.yes((2, ((0, 1),)))
        self.yes((3, ((0, 1), (1, 2))))
        self.yes((5, ((0, 4), (1, 2), (1, 3))))

    def test_every_small_frame(self):
        for frame in small_frames():
            self.yes(frame)

    def test_from_one_to_six_joints(self):
        for many in range(1, 7):
            self.yes((many, ()))
        for many in (0, 7, 8, -1, -6, HUGE, -HUGE, 10**101):
            self.no((many, ()))

    def test_no_bars_and_all_bars(self):
        self.yes((6, ()))
        self.yes(FULL)
        for many in range(1, 7):
            self.yes((many, tuple(itertools.combinations(range(many), 2))))
        self.no((5, ALL_PAIRS))
        self.no((7, ALL_PAIRS))

    def test_frames_are_not_asked_to_hang_together(self):
        self.yes((6, ((4, 5),)))
        self.yes((4, ((0, 1), (2, 3))))

    def test_ends_are_joints_of_the_frame(self):
        self.yes((3, ((1, 2),)))
        for bar in ((1, 3), (3, 4), (-1, 0), (-1, 2), (-2, -1), (0, HUGE), (-HUGE, 0), (HUGE, HUGE + 1)):
            self.no((3, (bar,)))
        self.no((1, ((0, 1),)))
        self.no((6, ((0, 6),)))
        self.no((6, ((0, 1), (0, 6))))

    def test_the_lesser_end_stands_first(self):
        self.no((3, ((1, 0),)))
        self.no((3, ((0, 0),)))
        self.no((3, ((2, 2),)))
        self.no((3, ((0, 1), (2, 1))))

    def test_bars_rise(self):
        self.no((3, ((0, 2), (0, 1))))
        self.no((3, ((1, 2), (0, 1))))
        self.no((4, ((0, 1), (1, 3), (0, 2))))
        self.no((4, ((0, 1), (0, 3), (0, 2), (1, 2))))
        self.no((6, ALL_PAIRS[::-1]))

    def test_every_wrong_order_of_four_bars(self):
        bars = ((0, 1), (0, 2), (1, 2), (2, 3))
        for order in itertools.permutations(bars):
            self.assertIs(is_frame((4, order)), order == bars)

    def test_no_bar_stands_twice(self):
        self.no((3, ((0, 1), (0, 1))))
        self.no((3, ((0, 1), (0, 2), (0, 2))))
        self.no((3, ((0, 1), (0, 2), (0, 1))))

    def test_truths_are_no_numbers(self):
        self.no((True, ()))
        self.no((False, ()))
        self.no((2, ((False, 1),)))
        self.no((2, ((0, True),)))
        self.no((2, ((False, True),)))
        self.no((3, ((0, 1), (True, 2))))
        self.no((3, ((0, 1), (False, 2))))
        self.no((3, (True,)))
        self.no((3, True))
        self.no((3, False))

    def test_lists_are_no_tuples(self):
        self.no([2, ((0, 1),)])
        self.no((2, [(0, 1)]))
        self.no((2, ([0, 1],)))
        self.no((3, ((0, 1), [1, 2])))
        self.no((2, []))
        self.no([2, []])

    def test_tuples_too_short_or_too_long(self):
        self.no(())
        self.no((2,))
        self.no((2, (), ()))
        self.no((2, ((0, 1),), None))
        self.no((2, ((0,),)))
        self.no((2, ((),)))
        self.no((3, ((0, 1, 2),)))
        self.no((3, ((0, 1), (1, 2, 2))))
        self.no((3, (0, 1)))

    def test_what_is_no_number_at_each_place(self):
        for thing in not_whole():
            self.no((thing, ()))
            self.no((thing, ((0, 1),)))
            self.no((3, ((thing, 2),)))
            self.no((3, ((0, thing),)))
            self.no((3, ((0, 1), (thing, 2))))
            self.no((3, ((0, 1), (0, thing))))

    def test_what_is_no_bar_or_no_bars(self):
        for thing in anythings():
            self.no((3, (thing,)))
            self.no((3, ((0, 1), thing)))
            self.no((3, (thing, (0, 1))))
        for thing in plain_things():
            self.no((3, thing))

    def test_anything(self):
        for thing in anythings():
            self.no(thing)

    def test_texts_that_look_like_pairs(self):
        self.no("20")
        self.no((2, "01"))
        self.no((2, ("01",)))
        self.no((2, (("0", "1"),)))

    def test_by_name(self):
        self.assertIs(is_frame(thing=SQUARE), True)
        self.assertIs(is_frame(thing=[]), False)

    def test_what_is_asked_about_stays(self):
        thing = [2, [[0, 1], (1, 0)], None]
        is_frame(thing)
        is_frame((2, thing))
        is_frame((2, (thing,)))
        self.assertEqual(thing, [2, [[0, 1], (1, 0)], None])


class AreSpots(unittest.TestCase):
    def yes(self, frame, thing):
        self.assertIs(are_spots(frame, thing), True, thing)

    def no(self, frame, thing):
        self.assertIs(are_spots(frame, thing), False, thing)

    def test_ordinary_spots(self):
        self.yes(SQUARE, SQUARE_SPOTS)
        self.yes((1, ()), ((5, -7),))
        self.yes(FULL, ((0, 0), (1, 0), (2, 1), (3, -1), (-4, 5), (6, 6)))

    def test_two_spots_may_be_alike(self):
        self.yes((2, ((0, 1),)), ((3, 4), (3, 4)))
        self.yes(FULL, ((0, 0),) * 6)

    def test_spots_need_not_rise(self):
        self.yes((3, ()), ((9, 9), (1, 1), (0, 0)))

    def test_a_spot_for_each_joint(self):
        for many in range(1, 7):
            for spots in range(9):
                self.assertIs(are_spots((many, ()), ((1, 2),) * spots), spots == many)

    def test_numbers_to_999(self):
        for number in (-999, 999, -998, 998, 0):
            self.yes((1, ()), ((number, 0),))
            self.yes((1, ()), ((0, number),))
            self.yes((2, ()), ((0, 0), (number, number)))
        for number in (-1000, 1000, HUGE, -HUGE, 10**101):
            self.no((1, ()), ((number, 0),))
            self.no((1, ()), ((0, number),))
            self.no((2, ()), ((0, 0), (number, 0)))
            self.no((2, ()), ((0, 0), (0, number)))

    def test_truths_are_no_numbers(self):
        for truth in (True, False):
            self.no((1, ()), truth)
            self.no((1, ()), (truth,))
            self.no((1, ()), ((truth, 0),))
            self.no((1, ()), ((0, truth),))
            self.no((2, ()), ((0, 0), (1, truth)))
            self.no((2, ()), ((0, 0), (truth, 1)))

    def test_lists_are_no_tuples(self):
        self.no((1, ()), [(0, 0)])
        self.no((1, ()), ([0, 0],))
        self.no((2, ()), ((0, 0), [0, 0]))
        self.no((2, ()), [[0, 0], [0, 0]])

    def test_tuples_too_short_or_too_long(self):
        self.no((1, ()), ())
        self.no((1, ()), ((),))
        self.no((1, ()), ((0,),))
        self.no((1, ()), ((0, 0, 0),))
        self.no((2, ()), ((0, 0), (0, 0, 0)))
        self.no((2, ()), (0, 0))

    def test_what_is_no_number_at_each_place(self):
        for thing in not_whole():
            self.no((2, ()), ((thing, 0), (0, 0)))
            self.no((2, ()), ((0, thing), (0, 0)))
            self.no((2, ()), ((0, 0), (thing, 0)))
            self.no((2, ()), ((0, 0), (0, thing)))

    def test_anything(self):
        for thing in anythings():
            self.no((1, ()), thing)
            self.no((2, ()), thing)
            self.no((1, ()), (thing,))
            self.no((2, ()), ((0, 0), thing))
            self.no((2, ()), (thing, (0, 0)))
        self.no((2, ()), "ab")
        self.no((2, ()), ("12", "34"))

    def test_a_frame_is_no_spots_of_itself(self):
        self.no((2, ((0, 1),)), (2, ((0, 1),)))

    def test_by_name_in_another_order(self):
        self.assertIs(are_spots(thing=SQUARE_SPOTS, frame=SQUARE), True)
        self.assertIs(are_spots(thing=SQUARE, frame=SQUARE), False)

    def test_what_is_asked_about_stays(self):
        thing = [[0, 0], (1, 1)]
        are_spots((2, ()), thing)
        are_spots((1, ()), (thing,))
        self.assertEqual(thing, [[0, 0], (1, 1)])


class Joined(unittest.TestCase):
    def test_ordinary_frame(self):
        self.assertEqual([joined(SQUARE, joint) for joint in range(4)], [[1, 2, 3], [0, 2], [0, 1, 3], [0, 2]])

    def test_no_bars_and_all_bars(self):
        self.assertEqual(joined((1, ()), 0), [])
        for joint in range(6):
            self.assertEqual(joined((6, ()), joint), [])
            self.assertEqual(joined(FULL, joint), [other for other in range(6) if other != joint])

    def test_every_small_frame(self):
        for many, bars in small_frames():
            for joint in range(many):
                ends = [at for at in range(many) if (at, joint) in bars or (joint, at) in bars]
                self.assertEqual(joined((many, bars), joint), ends)

    def test_a_list_of_numbers(self):
        told = joined(SQUARE, 1)
        self.assertIs(type(told), list)
        self.assertEqual([type(end) for end in told], [int, int])

    def test_the_list_is_the_askers_own(self):
        told = joined(SQUARE, 0)
        second = joined(SQUARE, 0)
        told.append(9)
        told[0] = None
        self.assertEqual(second, [1, 2, 3])
        self.assertEqual(joined(SQUARE, 0), [1, 2, 3])
        joined((1, ()), 0).append(5)
        self.assertEqual(joined((1, ()), 0), [])
        self.assertEqual(SQUARE, (4, ((0, 1), (0, 2), (0, 3), (1, 2), (2, 3))))

    def test_by_name_in_another_order(self):
        self.assertEqual(joined(joint=2, frame=SQUARE), [0, 1, 3])


class Refusing(unittest.TestCase):
    def refused(self, change, frame, one, other):
        """The change is refused with NoBar, its fields as handed in, and the frame stays."""
        before = repr(frame)
        with self.assertRaises(errors.NoBar) as caught:
            change(frame, one, other)
        self.assertIs(type(caught.exception), errors.NoBar)
        self.assertEqual((caught.exception.one, caught.exception.other), (one, other))
        self.assertEqual(repr(frame), before)


class Without(Refusing):
    def test_ordinary_frame(self):
        self.assertEqual(without(SQUARE, 0, 2), (4, ((0, 1), (0, 3), (1, 2), (2, 3))))
        self.assertEqual(without(SQUARE, 2, 0), (4, ((0, 1), (0, 3), (1, 2), (2, 3))))
        self.assertEqual(without((2, ((0, 1),)), 0, 1), (2, ()))

    def test_every_bar_of_all(self):
        for one, other in ALL_PAIRS:
            left = tuple([bar for bar in ALL_PAIRS if bar != (one, other)])
            self.assertEqual(without(FULL, one, other), (6, left))
            self.assertEqual(without(FULL, other, one), (6, left))

    def test_every_pair_of_every_small_frame(self):
        for many, bars in small_frames():
            for one, other in itertools.product(range(-1, many + 1), repeat=2):
                pair = tuple(sorted((one, other)))
                if pair in bars:
                    left = tuple([bar for bar in bars if bar != pair])
                    self.assertEqual(without((many, bars), one, other), (many, left))
                else:
                    self.refused(without, (many, bars), one, other)

    def test_where_there_is_no_bar(self):
        for one, other in ((1, 3), (3, 1), (0, 0), (2, 2), (0, 4), (4, 0), (-1, 0), (0, -1), (7, 9)):
            self.refused(without, SQUARE, one, other)
        self.refused(without, (1, ()), 0, 0)
        self.refused(without, (6, ()), 0, 1)

    def test_numbers_from_behind_are_no_joints(self):
        self.refused(without, SQUARE, -4, -3)
        self.refused(without, SQUARE, -1, 2)

    def test_numbers_of_a_hundred_figures(self):
        for one, other in ((HUGE, 0), (0, HUGE), (-HUGE, HUGE), (HUGE, HUGE), (1, -HUGE), (10**101, 0)):
            self.refused(without, SQUARE, one, other)

    def test_what_is_told_is_a_frame_and_what_was_handed_in_stays(self):
        frame = (3, ((0, 1), (1, 2)))
        told = without(frame, 2, 1)
        self.assertIs(is_frame(told), True)
        self.assertEqual(frame, (3, ((0, 1), (1, 2))))
        self.assertEqual(without(frame, 1, 2), told)

    def test_by_name_in_another_order(self):
        self.assertEqual(without(other=1, frame=(2, ((0, 1),)), one=0), (2, ()))
        with self.assertRaises(errors.NoBar) as caught:
            without(other=1, one=3, frame=SQUARE)
        self.assertEqual((caught.exception.one, caught.exception.other), (3, 1))


class WithBar(Refusing):
    def test_ordinary_frame(self):
        self.assertEqual(with_bar(SQUARE, 1, 3), (4, ALL_PAIRS[:3] + ((1, 2), (1, 3), (2, 3))))
        self.assertEqual(with_bar((2, ()), 0, 1), (2, ((0, 1),)))
        self.assertEqual(with_bar((2, ()), 1, 0), (2, ((0, 1),)))

    def test_bars_still_rise_wherever_the_bar_goes(self):
        for one, other in ALL_PAIRS:
            less = (6, tuple([bar for bar in ALL_PAIRS if bar != (one, other)]))
            self.assertEqual(with_bar(less, one, other), FULL)
            self.assertEqual(with_bar(less, other, one), FULL)

    def test_every_pair_of_every_small_frame(self):
        for many, bars in small_frames():
            for one, other in itertools.product(range(-1, many + 1), repeat=2):
                pair = tuple(sorted((one, other)))
                if 0 <= pair[0] < pair[1] < many and pair not in bars:
                    more = tuple(sorted(bars + (pair,)))
                    self.assertEqual(with_bar((many, bars), one, other), (many, more))
                else:
                    self.refused(with_bar, (many, bars), one, other)

    def test_where_there_is_one_already(self):
        self.refused(with_bar, SQUARE, 0, 1)
        self.refused(with_bar, SQUARE, 1, 0)
        for one, other in ALL_PAIRS:
            self.refused(with_bar, FULL, one, other)
            self.refused(with_bar, FULL, other, one)

    def test_one_joint_twice(self):
        for joint in range(4):
            self.refused(with_bar, SQUARE, joint, joint)
        self.refused(with_bar, (1, ()), 0, 0)
        self.refused(with_bar, SQUARE, HUGE, HUGE)

    def test_what_is_no_joint(self):
        for one, other in ((0, 4), (4, 0), (3, 4), (-1, 0), (0, -1), (-1, 3), (5, 9), (-3, -1)):
            self.refused(with_bar, SQUARE, one, other)
        self.refused(with_bar, (1, ()), 0, 1)
        self.refused(with_bar, (6, ()), 5, 6)

    def test_numbers_of_a_hundred_figures(self):
        for one, other in ((HUGE, 0), (0, HUGE), (-HUGE, HUGE), (1, -HUGE), (-HUGE, 1), (10**101, 0)):
            self.refused(with_bar, SQUARE, one, other)

    def test_what_is_told_is_a_frame_and_what_was_handed_in_stays(self):
        frame = (3, ((0, 1), (1, 2)))
        told = with_bar(frame, 2, 0)
        self.assertIs(is_frame(told), True)
        self.assertEqual(frame, (3, ((0, 1), (1, 2))))
        self.assertEqual(with_bar(frame, 0, 2), told)

    def test_by_name_in_another_order(self):
        self.assertEqual(with_bar(other=1, frame=(2, ()), one=0), (2, ((0, 1),)))
        with self.assertRaises(errors.NoBar) as caught:
            with_bar(one=8, other=1, frame=SQUARE)
        self.assertEqual((caught.exception.one, caught.exception.other), (8, 1))

    def test_putting_and_taking_undo_each_other(self):
        for many, bars in small_frames():
            for one, other in bars:
                self.assertEqual(with_bar(without((many, bars), other, one), one, other), (many, bars))


if __name__ == "__main__":
    unittest.main()
