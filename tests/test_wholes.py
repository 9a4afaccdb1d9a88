"""Whole numbers, and rows of them: what the other modules are built on."""

import itertools
import math
import random
import unittest

from stayfast.wholes import (
    added, answer_from, are_wholes, cleared, common_divisor, is_whole, is_whole_from, lead_of, lowest, made_step,
    product, rises, times,
)
from tests.anything import anythings, not_whole, wrong_kinds
from tests.drawn import HUGE, rank_of


def drawn_steps(draw, width):
    """Steps of drawn rows, each cleared of those ahead of it."""
    steps = []
    for _ in range(draw.randint(0, width - 1)):
        row = cleared([draw.randint(-4, 4) for _ in range(width)], steps)
        if lead_of(row) is not None:
            steps.append(made_step(lead_of(row), row))
    return steps


class Wholes(unittest.TestCase):
    def test_whole_numbers(self):
        for number in (0, 1, -1, HUGE, -HUGE):
            self.assertIs(is_whole(number), True)
        for thing in not_whole():
            self.assertIs(is_whole(thing), False)
            self.assertIs(is_whole_from(thing, -9, 9), False)

    def test_from_low_to_high(self):
        for number in range(-4, 5):
            self.assertIs(is_whole_from(number, -2, 3), -2 <= number <= 3)

    def test_tuples_of_so_many(self):
        for many, length in itertools.product(range(4), repeat=2):
            self.assertIs(are_wholes((HUGE,) * length, many), many == length)
        for thing in wrong_kinds((0, 1, 7)):
            self.assertIs(are_wholes(thing, 3), False)
        for thing in anythings():
            self.assertIs(are_wholes(thing, 3), False)

    def test_rising(self):
        for things in ((), (5,), (1, 2, 3), ((0, 1), (0, 2), (1, 0))):
            self.assertIs(rises(things), True)
        for things in ((1, 1), (1, 3, 2), (2, 1, 3), ((0, 1), (0, 1))):
            self.assertIs(rises(things), False)


class Rows(unittest.TestCase):
    def test_put_together(self):
        self.assertEqual(product((1, 2, 3), [4, 5, -6]), -4)
        self.assertEqual(product((), ()), 0)
        self.assertEqual(times(-2, (1, 0, HUGE)), [-2, 0, -2 * HUGE])
        self.assertEqual(added([1, 2], (3, -4)), [4, -2])

    def test_divisors(self):
        for row in itertools.product((-12, -9, 0, 1, 8, 18), repeat=3):
            self.assertEqual(common_divisor(row), math.gcd(*row))
            self.assertEqual(lowest(row), [number // max(1, math.gcd(*row)) for number in row])
        self.assertEqual(lowest((HUGE, -3 * HUGE)), [1, -3])
        self.assertEqual(lowest([]), [])

    def test_leads(self):
        self.assertEqual(lead_of([0, 0, -1, 5]), 2)
        self.assertEqual(lead_of([7]), 0)
        self.assertIsNone(lead_of([0, 0]))
        self.assertIsNone(lead_of([]))

    def test_steps_are_above_nought_at_their_lead(self):
        self.assertEqual(made_step(1, [0, 2, -3]), (1, [0, 2, -3]))
        self.assertEqual(made_step(1, [0, -2, 3]), (1, [0, 2, -3]))

    def test_what_is_cleared_is_the_row_and_the_steps(self):
        draw = random.Random(50)
        for _ in range(200):
            width = draw.randint(1, 6)
            steps = drawn_steps(draw, width)
            row = [draw.randint(-4, 4) for _ in range(width)]
            before = list(row)
            rest = cleared(row, steps)
            self.assertEqual(row, before)
            rows = [step for _, step in steps]
            self.assertEqual([rest[lead] for lead, _ in steps], [0] * len(steps))
            self.assertEqual(rank_of(rows + [rest]), rank_of(rows + [row]))
            self.assertEqual(rank_of(rows + [rest, row]), rank_of(rows + [row]))

    def test_an_answer_is_nought_with_each_step_and_not_at_the_place(self):
        draw = random.Random(51)
        for _ in range(200):
            width = draw.randint(1, 6)
            steps = drawn_steps(draw, width)
            leads = [lead for lead, _ in steps]
            for place in [at for at in range(width) if at not in leads]:
                row = answer_from(steps, place, width)
                self.assertEqual([product(step, row) for _, step in steps], [0] * len(steps))
                self.assertNotEqual(row[place], 0)
                self.assertEqual([row[at] for at in range(width) if at != place and at not in leads],
                                 [0] * (width - 1 - len(leads)))


if __name__ == "__main__":
    unittest.main()
