"""The tests' own second reckoning, by cases reckoned by hand."""

import unittest

from stayfast.frames import are_spots, is_frame
from tests.drawn import all_cases, bars_rank, come_to, drawn_cases, likenesses, numbered_otherwise, rank_of


class Drawn(unittest.TestCase):
    def test_what_is_drawn_are_frames_and_spots(self):
        for frame, spots in all_cases(1, 200):
            self.assertIs(is_frame(frame), True)
            self.assertIs(are_spots(frame, spots), True)
            few = tuple([(x // 11, y // 11) for x, y in spots])
            for like in likenesses(few):
                self.assertIs(are_spots(frame, like), True)

    def test_each_run_draws_the_same(self):
        self.assertEqual(drawn_cases(5, 20), drawn_cases(5, 20))

    def test_rank(self):
        self.assertEqual(rank_of([]), 0)
        self.assertEqual(rank_of([[0, 0]]), 0)
        self.assertEqual(rank_of([[0, 2], [0, 3], [1, 1]]), 2)
        self.assertEqual(rank_of([[1, 2, 3], [2, 4, 6], [1, 0, 0], [0, 2, 3]]), 2)

    def test_bars(self):
        square = ((0, 0), (4, 0), (4, 3), (0, 3))
        self.assertEqual(bars_rank(square, ((0, 1), (0, 3), (1, 2), (2, 3))), 4)
        self.assertEqual(bars_rank(square, ((0, 1), (0, 2), (0, 3), (1, 2), (1, 3), (2, 3))), 5)
        self.assertEqual(bars_rank(((1, 1), (1, 1)), ((0, 1),)), 0)

    def test_come_to(self):
        self.assertEqual(come_to(((0, 1), (1, 2)), ((0, 0), (4, 0), (4, 3)), (1, 2)), ((-4, 0), (4, -6), (0, 6)))

    def test_numbered_otherwise(self):
        frame, spots = numbered_otherwise((3, ((0, 1), (1, 2))), ((0, 0), (4, 0), (4, 3)), (2, 0, 1))
        self.assertEqual(frame, (3, ((0, 1), (0, 2))))
        self.assertEqual(spots, ((4, 0), (4, 3), (0, 0)))


if __name__ == "__main__":
    unittest.main()
