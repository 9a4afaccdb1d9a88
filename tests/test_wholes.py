"""Whole numbers, and rows of them: what the other modules are built on."""

import itertools
import math
import random
import unittest

from stayfast.wholes import (
    AIM, SHARE, added, answer_from, are_wholes, cleared, common_divisor, is_whole, is_whole_from, lead_of, lowest,
    made_step, product, raised, rises, settled, steps_of, times, turned,
)
from tests.anything import anythings, not_whole, wrong_kinds
from tests.drawn import HUGE, rank_of


def drawn_steps(draw, width):
    """Steps of drawn rows, each cleared of those ahead of it."""
    steps = []
    for _ in range(draw.randint(0, width - 1)):
        row = cleared([draw.randint(-4, 4) for _ in range(width)], steps)
        if lead_of(row) is not None:
            steps.append(made_step(lead_of(row), row))
    return steps


class Wholes(unittest.TestCase):
    def test_whole_numbers(self):
        for number in (0, 1, -1, HUGE, -HUGE):
            self.assertIs(is_whole(number), True)
        for thing in not_whole():
            self.assertIs(is_whole(thing), False)
            self.assertIs(is_whole_from(thing, -9, 9), False)

    def test_from_low_to_high(self):
        for number in range(-4, 5):
            self.assertIs(is_whole_from(number, -2, 3), -2 <= number <= 3)

    def test_tuples_of_so_many(self):
        for many, length in itertools.product(range(4), repeat=2):
            self.assertIs(are_wholes((HUGE,) * length, many), many == length)
        for thing in wrong_kinds((0, 1, 7)):
            self.assertIs(are_wholes(thing, 3), False)
        for thing in anythings():
            self.assertIs(are_wholes(thing, 3), False)

    def test_rising(self):
        for things in ((), (5,), (1, 2, 3), ((0, 1), (0, 2), (1, 0))):
            self.assertIs(rises(things), True)
        for things in ((1, 1), (1, 3, 2), (2, 1, 3), ((0, 1), (0, 1))):
            self.assertIs(rises(things), False)


class Rows(unittest.TestCase):
    def test_put_together(self):
        self.assertEqual(product((1, 2, 3), [4, 5, -6]), -4)
        self.assertEqual(product((), ()), 0)
        self.assertEqual(times(-2, (1, 0, HUGE)), [-2, 0, -2 * HUGE])
        self.assertEqual(added([1, 2], (3, -4)), [4, -2])

    def test_divisors(self):
        for row in itertools.product((-12, -9, 0, 1, 8, 18), repeat=3):
            self.assertEqual(common_divisor(row), math.gcd(*row))
            self.assertEqual(lowest(row), [number // max(1, math.gcd(*row)) for number in row])
        self.assertEqual(lowest((HUGE, -3 * HUGE)), [1, -3])
        self.assertEqual(lowest([]), [])

    def test_leads(self):
        self.assertEqual(lead_of([0, 0, -1, 5]), 2)
        self.assertEqual(lead_of([7]), 0)
        self.assertIsNone(lead_of([0, 0]))
        self.assertIsNone(lead_of([]))

    def test_steps_are_above_nought_at_their_lead(self):
        self.assertEqual(made_step(1, [0, 2, -3]), (1, [0, 2, -3]))
        self.assertEqual(made_step(1, [0, -2, 3]), (1, [0, 2, -3]))

    def test_what_is_cleared_is_the_row_and_the_steps(self):
        draw = random.Random(50)
        for _ in range(200):
            width = draw.randint(1, 6)
            steps = drawn_steps(draw, width)
            row = [draw.randint(-4, 4) for _ in range(width)]
            before = list(row)
            rest = cleared(row, steps)
            self.assertEqual(row, before)
            rows = [step for _, step in steps]
            self.assertEqual([rest[lead] for lead, _ in steps], [0] * len(steps))
            self.assertEqual(rank_of(rows + [rest]), rank_of(rows + [row]))
            self.assertEqual(rank_of(rows + [rest, row]), rank_of(rows + [row]))

    def test_an_answer_is_nought_with_each_step_and_not_at_the_place(self):
        draw = random.Random(51)
        for _ in range(200):
            width = draw.randint(1, 6)
            steps = drawn_steps(draw, width)
            leads = [lead for lead, _ in steps]
            for place in [at for at in range(width) if at not in leads]:
                row = answer_from(steps, place, width)
                self.assertEqual([product(step, row) for _, step in steps], [0] * len(steps))
                self.assertNotEqual(row[place], 0)
                self.assertEqual([row[at] for at in range(width) if at != place and at not in leads],
                                 [0] * (width - 1 - len(leads)))

    def test_steps_of_rows(self):
        draw = random.Random(52)
        for _ in range(200):
            width = draw.randint(1, 6)
            rows = [[draw.randint(-2, 2) for _ in range(width)] for _ in range(draw.randint(0, 8))]
            steps = steps_of(rows)
            self.assertEqual(len(steps), rank_of(rows))
            self.assertEqual(rank_of(rows + [step for _, step in steps]), rank_of(rows))
            for at, (lead, step) in enumerate(steps):
                self.assertGreater(step[lead], 0)
                self.assertEqual([later[lead] for _, later in steps[at + 1:]], [0] * len(steps[at + 1:]))


def drawn_unknowns(draw):
    """Steps to raise, and which unknowns are sided: some that make 0, and some that are kept below by a share."""
    below, others = draw.randint(0, 4), draw.randint(1, 5)
    sided = [False, False] + [draw.randrange(3) > 0 for _ in range(others)] + [True] * below
    steps = [(None, [draw.randint(-2, 2), 0] + [draw.randint(-2, 2) for _ in range(others)] + [0] * below)
             for _ in range(draw.randint(1, 4))]
    for at in range(below):
        # Only what is from 0 on is kept below, so that noughts do for all.
        row = [0, -draw.randint(0, 5)] + [draw.randint(0, 2) if side else 0 for side in sided[2:2 + others]]
        steps.append((2 + others + at, row + [1 if place == at else 0 for place in range(below)]))
    draw.shuffle(steps)
    return steps, sided


class Raised(unittest.TestCase):
    def test_by_hand(self):
        # AIM is x less 2 times y, x at most 5 and y from 0 on.
        steps = [(None, [1, 0, -1, 2, 0]), (4, [0, -5, 1, 0, 1])]
        told, place = raised(steps, [False, False, True, True, True])
        self.assertIsNone(place)
        self.assertEqual(answer_from(told, SHARE, 5), [5, 1, 5, 0, 0])
        # Where AIM is y less x nothing keeps it.
        steps = [(None, [1, 0, 1, -1, 0]), (4, [0, -5, 1, 0, 1])]
        told, place = raised(steps, [False, False, True, True, True])
        self.assertEqual(answer_from(told, place, 5), [1, 0, 0, 1, 0])
        # Where AIM is in no step it rises by itself.
        told, place = raised([(None, [0, 0, 1])], [False, False, True])
        self.assertEqual(place, AIM)

    def test_turned(self):
        steps = [(None, [0, 2, 4]), (2, [1, -3, 5])]
        before = [(lead, list(row)) for lead, row in steps]
        self.assertEqual(turned(steps, 1, 1), [(None, [1, 0, 11]), (1, [-1, 3, -5])])
        self.assertEqual(turned(steps, 0, 1), [(1, [0, 2, 4]), (2, [1, 0, 11])])
        self.assertEqual(steps, before)

    def test_settled(self):
        draw = random.Random(53)
        for _ in range(200):
            steps, sided = drawn_unknowns(draw)
            told = settled(steps, sided)
            rows = [row for _, row in steps]
            self.assertEqual(len(told), rank_of(rows))
            self.assertEqual(rank_of(rows + [row for _, row in told]), rank_of(rows))
            for at, (lead, row) in enumerate(told):
                self.assertGreater(row[lead], 0)
                self.assertEqual([other[lead] for _, other in told[:at] + told[at + 1:]], [0] * (len(told) - 1))

    def test_what_is_raised_keeps_all_steps_and_sides(self):
        draw = random.Random(54)
        counts = [0, 0]
        for _ in range(500):
            steps, sided = drawn_unknowns(draw)
            width = len(sided)
            told, place = raised(steps, sided)
            row = answer_from(told, SHARE if place is None else place, width)
            counts[place is None] += 1
            self.assertEqual([product(step, row) for _, step in steps], [0] * len(steps))
            self.assertTrue(all([number >= 0 for side, number in zip(sided, row) if side]))
            if place is None:
                self.assertGreater(row[SHARE], 0)
                # By one step, put together from those handed in, AIM is no more in any other way.
                top = [line for lead, line in told if lead == AIM][0]
                self.assertGreater(top[AIM], 0)
                self.assertTrue(all([number >= 0 if side else number == 0 for side, number in
                                     zip(sided[2:], top[2:width])]))
                self.assertEqual(-top[SHARE] * row[SHARE], top[AIM] * row[AIM])
            else:
                self.assertEqual(row[SHARE], 0)
                self.assertGreater(row[AIM], 0)
        self.assertGreater(min(counts), 100)


if __name__ == "__main__":
    unittest.main()
