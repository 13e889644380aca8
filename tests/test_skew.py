"""[21] hot keys."""

import copy
import unittest

from countedonce.keysums import key_sum
from countedonce.meaning import meaning
from countedonce.skew import fold_in_two, hot_keys, most_in_piece
from tests import clerk, makers

ROWS = [("p", 1), ("q", 4), ("p", 2), ("r", 0), ("p", 1), ("q", 5), ("p", 3), ("s", 9)]
NAMES = ("t", "x")
X = ("column", "x")
FOLDS = {
    "count": (("count", None, "n"),), "sum": (("sum", X, "s"),), "least": (("least", X, "l"),),
    "greatest": (("greatest", ("minus", X), "g"),), "mean": (("mean", X, "m"),), "unlike": (("unlike", X, "u"),)}


def plain(rows, details, columns):
    job = (("a", "read", (), columns), ("c", "fold", ("a",), details)), "c"
    return meaning(job, {"a": rows})


class Hot(unittest.TestCase):
    def test_more_than_most(self):
        self.assertEqual(hot_keys(ROWS, ("t",), NAMES, 3), [("p",)])
        self.assertEqual(hot_keys(ROWS, ("t",), NAMES, 4), [])
        self.assertEqual(hot_keys(ROWS, ("t",), NAMES, 2), [("p",)])
        self.assertEqual(hot_keys(ROWS, ("t",), NAMES, 1), [("p",), ("q",)])
        self.assertEqual(hot_keys(tuple(ROWS), ("t",), NAMES, 0), [("p",), ("q",), ("r",), ("s",)])

    def test_keys_in_their_order(self):
        self.assertEqual(hot_keys(ROWS, ("x", "t"), NAMES, 1), [(1, "p")])
        self.assertEqual(hot_keys(ROWS, ("t", "x"), NAMES, 1), [("p", 1)])
        self.assertEqual(hot_keys(ROWS, ("x",), NAMES, 0), [(0,), (1,), (2,), (3,), (4,), (5,), (9,)])

    def test_without_keys_or_rows(self):
        self.assertEqual(hot_keys(ROWS, (), NAMES, 7), [()])
        self.assertEqual(hot_keys(ROWS, (), NAMES, 8), [])
        self.assertEqual(hot_keys([], (), NAMES, 0), [])
        self.assertEqual(hot_keys([], ("t",), NAMES, 0), [])


class Folding(unittest.TestCase):
    def test_each_kind_as_the_plain_fold(self):
        columns = (("t", "text"), ("x", "int"))
        for kind, folds in FOLDS.items():
            for keys in (("t",), (), ("t", "x"), ("x",)):
                details = (keys, folds)
                every = hot_keys(ROWS, keys, NAMES, 0)
                for hot in (every, every[:1], [], [("nobody",), (7, 7)], every[::2] + [("z",)]):
                    for pieces in (1, 2, 3, 20):
                        self.assertEqual(fold_in_two(ROWS, details, NAMES, hot, pieces),
                                         plain(ROWS, details, columns), kind)

    def test_random_folds(self):
        for seed in range(300):
            rng = makers.source(seed)
            columns = (("a", "int"), ("b", "text"), ("c", "int"))
            rows = makers.rows(rng, columns, 20)
            step, made = makers.fold_step(rng, "z", "y", columns)
            kept = copy.deepcopy((rows, step))
            names = ("a", "b", "c")
            hot = hot_keys(rows, step[3][0], names, rng.randint(0, 3))
            job = (("y", "read", (), columns), step), "z"
            got = fold_in_two(rows, step[3], names, hot, rng.randint(1, 6))
            self.assertEqual(got, clerk.told(job, {"y": rows}, {"y": columns, "z": made}))
            self.assertIsInstance(got, list)
            self.assertEqual((rows, step), kept)

    def test_no_rows(self):
        self.assertEqual(fold_in_two([], (("t",), FOLDS["sum"]), NAMES, [("p",)], 3), [])
        self.assertEqual(fold_in_two([], ((), FOLDS["mean"]), NAMES, [()], 3), [])


class Most(unittest.TestCase):
    def test_all_keys_hot(self):
        every = hot_keys(ROWS, ("t",), NAMES, 0)
        for pieces in range(1, 12):
            self.assertEqual(most_in_piece(ROWS, ("t",), NAMES, every, pieces), -(-len(ROWS) // pieces))
            self.assertEqual(most_in_piece(ROWS, (), NAMES, [()], pieces), -(-len(ROWS) // pieces))

    def test_no_key_hot(self):
        for pieces in (1, 2, 3, 7):
            many = [0] * pieces
            for row in ROWS:
                many[key_sum(row[:1]) % pieces] += 1
            self.assertEqual(most_in_piece(ROWS, ("t",), NAMES, [], pieces), max(many))
            self.assertEqual(most_in_piece(ROWS, ("t",), NAMES, [("z",)], pieces), max(many))

    def test_hot_rows_are_dealt_from_the_first_piece_on(self):
        for pieces in (2, 3, 4):
            many = [0] * pieces
            hot = [row for row in ROWS if row[0] in "pq"]
            for at in range(len(hot)):
                many[at % pieces] += 1
            for row in ROWS:
                if row[0] not in "pq":
                    many[key_sum(row[:1]) % pieces] += 1
            self.assertEqual(most_in_piece(tuple(ROWS), ("t",), NAMES, [("q",), ("p",)], pieces), max(many))

    def test_random_rows(self):
        for seed in range(300):
            rng = makers.source(seed)
            rows = [(rng.choice("pqrs"), rng.randint(0, 3)) for _ in range(rng.randint(0, 20))]
            keys = rng.choice((("t",), ("x", "t"), ("x",)))
            names = ("t", "x")
            of_row = [tuple([row[names.index(key)] for key in keys]) for row in rows]
            hot = hot_keys(rows, keys, names, rng.randint(0, 4))
            many = [0] * rng.randint(1, 7)
            turn = 0
            for key in of_row:
                if key in hot:
                    many[turn % len(many)] += 1
                    turn += 1
                else:
                    many[key_sum(key) % len(many)] += 1
            self.assertEqual(most_in_piece(rows, keys, names, hot, len(many)), max(many))

    def test_one_piece_and_no_rows(self):
        self.assertEqual(most_in_piece(ROWS, ("t",), NAMES, [("p",)], 1), 8)
        self.assertEqual(most_in_piece([], ("t",), NAMES, [("p",)], 3), 0)


if __name__ == "__main__":
    unittest.main()
