"""[19] sorting with little memory."""

import copy
import unittest

from countedonce.errors import BadThing
from countedonce.sorting import rounds_for, sorted_in_runs
from tests import makers


def rounds_of(many, memory, width):
    """The rounds as the document tells them."""
    runs = -(-many // memory)
    rounds = 0
    while runs > 1:
        runs = -(-runs // width)
        rounds += 1
    return rounds


class Sorting(unittest.TestCase):
    def test_sorted_at_each_place_and_then_by_all(self):
        rows = [(2, "b", 1), (1, "b", 2), (2, "a", 0), (1, "a", 2), (2, "b", 0), (1, "b", 2)]
        for memory in (1, 2, 3, 100):
            for at in range(3):
                told = sorted_in_runs(rows, at, memory, 2)[0]
                self.assertEqual(told, sorted(rows, key=lambda row: (row[at],) + row))
        self.assertEqual(sorted_in_runs(rows, 1, 2, 2)[0],
                         [(1, "a", 2), (2, "a", 0), (1, "b", 2), (1, "b", 2), (2, "b", 0), (2, "b", 1)])

    def test_random_rows(self):
        for seed in range(300):
            rng = makers.source(seed)
            rows = [(rng.randint(0, 5), rng.choice("abc"), rng.randint(-2, 2)) for _ in range(rng.randint(0, 40))]
            at, memory, width = rng.randint(0, 2), rng.randint(1, 9), rng.randint(2, 5)
            kept = copy.deepcopy(rows)
            told, rounds, most = sorted_in_runs(rows, at, memory, width)
            self.assertEqual(rows, kept)
            self.assertIsInstance(told, list)
            self.assertEqual(told, sorted(rows, key=lambda row: (row[at],) + row))
            self.assertEqual(rounds, rounds_of(len(rows), memory, width))
            self.assertEqual(rounds_for(len(rows), memory, width), rounds)
            self.assertLessEqual(most, max(memory, width))
            self.assertEqual(sorted_in_runs(tuple(rows), at, memory, width), (told, rounds, most))

    def test_rounds(self):
        for many, memory, width, rounds in ((0, 3, 2, 0), (1, 3, 2, 0), (1, 1, 2, 0), (3, 3, 2, 0), (4, 3, 2, 1),
                                            (6, 3, 2, 1), (7, 3, 2, 2), (12, 3, 2, 2), (13, 3, 2, 3), (16, 1, 2, 4),
                                            (17, 1, 2, 5), (9, 1, 3, 2), (10, 1, 3, 3), (100, 3, 4, 3), (5, 1, 9, 1),
                                            (1000, 1, 1000, 1), (1001, 1, 1000, 2), (3, 1000, 2, 0)):
            self.assertEqual(rounds_for(many, memory, width), rounds)
            rows = [(number,) for number in range(many)]
            self.assertEqual(sorted_in_runs(rows[::-1], 0, memory, width)[:2], (rows, rounds))

    def test_most(self):
        self.assertEqual(sorted_in_runs([], 0, 3, 2), ([], 0, 0))
        self.assertEqual(sorted_in_runs((), 0, 1, 9), ([], 0, 0))
        self.assertEqual(sorted_in_runs([(5,)], 0, 3, 2), ([(5,)], 0, 1))
        rows = [(number,) for number in range(12)]
        self.assertEqual(sorted_in_runs(rows, 0, 1, 2)[2], 2)
        self.assertEqual(sorted_in_runs(rows, 0, 1, 5)[2], 5)
        self.assertEqual(sorted_in_runs(rows, 0, 1, 50)[2], 12)
        self.assertEqual(sorted_in_runs(rows, 0, 4, 2)[2], 4)
        self.assertEqual(sorted_in_runs(rows, 0, 12, 2)[2], 12)
        self.assertEqual(sorted_in_runs(rows, 0, 50, 2)[2], 12)
        self.assertEqual(sorted_in_runs(rows, 0, 3, 9)[2], 4)
        self.assertEqual(sorted_in_runs(rows[:9], 0, 4, 2)[1:], (2, 4))
        self.assertEqual(sorted_in_runs(rows[:9], 0, 8, 2)[1:], (1, 8))

    def test_no_room(self):
        for rows in ([], [(1,)], [(2,), (1,)]):
            for memory, width in ((0, 2), (-1, 2), (1, 1), (1, 0), (5, -3), (0, 0), (-7, 1)):
                with self.assertRaises(BadThing):
                    sorted_in_runs(rows, 0, memory, width)
                with self.assertRaises(BadThing):
                    rounds_for(len(rows), memory, width)


if __name__ == "__main__":
    unittest.main()
