"""[29] origins."""

import copy
import unittest

from countedonce.blocks import blocks_of
from countedonce.errors import BadThing
from countedonce.jobreader import read_job
from countedonce.origins import are_origins, origins_of
from tests import makers
from tests.plots import DATA, HEAD, JOBS, answer, job_of, random_plots

BLOCKS = blocks_of(DATA, {"a": 5, "b": 3})


def is_told(job, blocks, row, pairs):
    """Whether the patient clerk tells a row out of some blocks alone."""
    data = {}
    for name, number in pairs:
        data[name] = data.get(name, []) + list(blocks[name][number])
    return row in answer(job, data)


def are_by_the_words(job, blocks, row, pairs):
    return (list(pairs) == sorted(set(pairs)) and is_told(job, blocks, row, pairs)
            and not any(is_told(job, blocks, row, [pair for pair in pairs if pair != left]) for left in pairs))


def job_by(*lines):
    return read_job(HEAD + "\n".join(lines) + "\nanswer c")


class Origins(unittest.TestCase):
    def check(self, job, blocks, row):
        told = origins_of(job, blocks, row)
        self.assertIsInstance(told, tuple)
        self.assertTrue(all(isinstance(pair, tuple) and len(pair) == 2 for pair in told))
        self.assertTrue(are_by_the_words(job, blocks, row, told), (row, told))
        self.assertIs(are_origins(job, blocks, row, told), True)
        return told

    def test_every_kind_of_step(self):
        for name in JOBS:
            job = job_of(name)
            for cuts in ({}, {"a": 5, "b": 3}, {"a": 10, "b": 6}, {"a": 25, "b": 13}):
                blocks = blocks_of(DATA, cuts)
                for row in sorted(set(answer(job, DATA))):
                    self.check(job, blocks, row)

    def test_by_hand(self):
        blocks = {"a": [((1, "p"),), ((5, "q"), (2, "p")), ((5, "q"),), ()], "b": [(("p", 7),), (("q", 8),)]}
        job = job_by("c = filter a where x > 0")
        self.assertEqual(origins_of(job, blocks, (1, "p")), (("a", 0),))
        self.assertEqual(origins_of(job, blocks, (2, "p")), (("a", 1),))
        self.assertIn(origins_of(job, blocks, (5, "q")), ((("a", 1),), (("a", 2),)))
        job = job_by("c = join a, b by t")
        self.assertEqual(origins_of(job, blocks, ("p", 1, 7)), (("a", 0), ("b", 0)))
        self.assertEqual(origins_of(job, blocks, ("p", 2, 7)), (("a", 1), ("b", 0)))
        job = job_by("c = fold a by t: count() as n, sum(x) as s")
        self.assertEqual(origins_of(job, blocks, ("p", 2, 3)), (("a", 0), ("a", 1)))
        self.assertEqual(origins_of(job, blocks, ("q", 2, 10)), (("a", 1), ("a", 2)))

    def test_a_table_with_itself(self):
        blocks = {"a": [((1, "p"), (2, "p")), ((3, "p"),), ((4, "p"),)], "b": [()]}
        job = job_by("d = map a to t, x as y", "c = join a, d by t")
        self.assertEqual(self.check(job, blocks, ("p", 1, 2)), (("a", 0),))
        self.assertEqual(self.check(job, blocks, ("p", 1, 3)), (("a", 0), ("a", 1)))
        self.assertEqual(self.check(job, blocks, ("p", 4, 4)), (("a", 2),))
        job = job_by("c = union a, a")
        self.assertEqual(self.check(job, blocks, (3, "p")), (("a", 1),))

    def test_a_sort_with_a_first_number(self):
        blocks = {"a": [((5, "p"),), ((9, "q"),), ((7, "r"),), ((9, "q"),)], "b": [()]}
        job = job_by("c = sort a by x down first 3")
        for row in ((9, "q"), (7, "r")):
            self.assertEqual(len(self.check(job, blocks, row)), 1)
        with self.assertRaises(BadThing):
            origins_of(job, blocks, (5, "p"))

    def test_rows_that_are_told_as_others_lack(self):
        # How many there are tells the row: with fewer blocks it may be told, or not be told, and then be told again.
        blocks = {"a": [((number, "p"),) for number in range(9)], "b": [()]}
        job = job_by("d = fold a by t: count() as n", "c = map d to n mod 3 as m")
        self.assertIn(len(self.check(job, blocks, (0,))), (3, 6, 9))
        blocks = {"a": [((number, "p"),) for number in range(8)], "b": [()]}
        self.assertIn(len(self.check(job, blocks, (2,))), (2, 5, 8))

    def test_one_that_is_of_use_only_with_another_is_left_out_too(self):
        # Without b alone the sum is another one; without b and then c it is the first one again.
        blocks = {"a": [((4, "p"),), ((3, "p"),), ((-3, "p"),), ((2, "p"),), ((-2, "p"),), ()], "b": [()]}
        job = job_by("c = fold a: sum(x) as s")
        told = self.check(job, blocks, (4,))
        self.assertIn(len(told), (1, 3, 5))
        job = job_by("d = fold a: count() as n, sum(x) as s", "c = map d to s * (n != 4) + 100 * (n = 4) as s")
        self.check(job, blocks, (4,))

    def told_for(self, many, sums):
        """A job that tells 1 of just some sets of blocks, each block having a 1 elsewhere in the sum of all."""
        blocks = {"a": [((2 ** number, "p"),) for number in range(many)], "b": [()]}
        told = " or ".join(["s = " + str(one) for one in sums])
        return job_by("d = fold a: sum(x) as s", "c = map d to " + told + " as m"), blocks

    def test_it_goes_on_until_none_can_be_left_out(self):
        # The first block can be left out only when the last one is.
        job, blocks = self.told_for(4, (15, 7, 6))
        self.assertEqual(self.check(job, blocks, (1,)), (("a", 1), ("a", 2)))
        job, blocks = self.told_for(5, (31, 27, 26, 18))
        self.assertEqual(self.check(job, blocks, (1,)), (("a", 1), ("a", 4)))
        for seed in range(300):
            rng = makers.source(seed)
            many = rng.randint(2, 6)
            sums = [2 ** many - 1] + [rng.randrange(2 ** many) for _ in range(rng.randint(1, 15))]
            job, blocks = self.told_for(many, sums)
            self.check(job, blocks, (1,))

    def test_rows_that_are_not_in_the_answer(self):
        job = job_of("fold")
        good = answer(job, DATA)[0]
        for row in (("z",) + good[1:], good[:-1], good + (1,), (), list(good), None, "p", good[:1] + (True,) + good[2:]):
            with self.assertRaises(BadThing) as caught:
                origins_of(job, BLOCKS, row)
            self.assertEqual(caught.exception.thing, row)
        blocks = {"a": [((1, "p"),)], "b": [()]}
        job = job_by("c = filter a where x = 1")
        with self.assertRaises(BadThing):
            origins_of(job, blocks, (True, "p"))
        self.assertEqual(origins_of(job, blocks, (1, "p")), (("a", 0),))

    def test_ascending_by_the_tables_names_whatever_the_order_of_the_reads(self):
        job = read_job("read z(x int)\nread a(x int)\nread m(x int)\nc = union z, a\nd = union c, m\n"
                       "e = fold d: count() as n\nanswer e")
        blocks = {"z": [((1,),), ((2,),)], "m": [((1,),)], "a": [((3,),)]}
        want = (("a", 0), ("m", 0), ("z", 0), ("z", 1))
        self.assertEqual(self.check(job, blocks, (4,)), want)
        self.assertIs(are_origins(job, blocks, (4,), (("z", 0), ("z", 1), ("a", 0), ("m", 0))), False)

    def test_blocks_that_lack(self):
        job = job_of("fold")
        self.assertEqual(origins_of(job_by("c = unlike a"), {"a": BLOCKS["a"]}, (1, "p")), (("a", 0),))
        with self.assertRaises(BadThing):
            origins_of(job, {}, ("p", 1, 1, 1, 1, 1, 1))

    def test_drawn(self):
        some = 0
        for seed, job, data, _, blocks in random_plots(range(2500), 6):
            rng = makers.source(seed)
            rows = sorted(set(answer(job, data)))
            for row in rng.sample(rows, min(3, len(rows))):
                some += len(self.check(job, blocks, row)) > 1
        self.assertGreater(some, 60)

    def test_rows_that_stand_several_times_in_different_blocks(self):
        for seed in range(60):
            rng = makers.source(seed)
            blocks = {"a": [tuple(rng.choices(DATA["a"][:4], k=rng.randint(0, 3))) for _ in range(8)], "b": [()]}
            data = {"a": [row for rows in blocks["a"] for row in rows]}
            for line in ("c = unlike a", "c = fold a by t: count() as n", "c = sort a by x up first 2",
                         "d = unlike a\nc = fold d: count() as n", "c = join a, a by t, x"):
                job = job_by(line)
                for row in sorted(set(answer(job, data))):
                    self.check(job, blocks, row)

    def test_nothing_is_changed(self):
        kept = copy.deepcopy(BLOCKS)
        for name in JOBS:
            job = job_of(name)
            row = answer(job, DATA)[0]
            told = origins_of(job, BLOCKS, row)
            self.assertEqual(origins_of(job, BLOCKS, row), told)
            are_origins(job, BLOCKS, row, told)
            self.assertEqual(BLOCKS, kept)


class Told(unittest.TestCase):
    def test_one_more_and_one_less(self):
        every = [(name, number) for name in "ab" for number in range(len(BLOCKS[name]))]
        for name in JOBS:
            job = job_of(name)
            row = answer(job, DATA)[-1]
            told = origins_of(job, BLOCKS, row)
            for pair in every:
                if pair in told:
                    thing = tuple([other for other in told if other != pair])
                else:
                    thing = tuple(sorted(told + (pair,)))
                self.assertIs(are_origins(job, BLOCKS, row, thing), False, (name, pair))

    def test_other_orders_and_forms(self):
        job = job_of("fold")
        row = [row for row in answer(job, DATA) if row[0] == "p"][0]
        told = origins_of(job, BLOCKS, row)
        self.assertGreater(len(told), 2)
        for thing in (told[::-1], told[1:] + told[:1], told + told[-1:], told[:1] + told, list(told), (), None, 5, "a",
                      dict(told), tuple([list(pair) for pair in told]), tuple([pair + (0,) for pair in told]),
                      tuple([pair[::-1] for pair in told]), tuple([pair[:1] for pair in told]), told + (None,),
                      told + (("a",),), told + (("z", 0),), told + (("a", 99),), (("a", -5),) + told[1:],
                      told + ((1, 1),), told + ([],), told[0], told + (("a", "b"),), (told,)):
            self.assertIs(are_origins(job, BLOCKS, row, thing), False, thing)
        self.assertIs(are_origins(job, BLOCKS, row, told), True)

    def test_numbers_are_ints(self):
        blocks = {"a": [((5, "p"),), ((1, "p"),)], "b": [()]}
        job = job_by("c = filter a where x = 1")
        self.assertIs(are_origins(job, blocks, (1, "p"), (("a", 1),)), True)
        for number in (True, 1.0, "1", -1, None, 2):
            self.assertIs(are_origins(job, blocks, (1, "p"), (("a", number),)), False)

    def test_any_such_tuple(self):
        blocks = {"a": [((5, "p"),), ((5, "p"),), ((5, "p"), (5, "p"))], "b": [()]}
        job = job_by("c = unlike a")
        for number in range(3):
            self.assertIs(are_origins(job, blocks, (5, "p"), (("a", number),)), True)
        job = job_by("d = fold a: count() as n", "c = filter d where n > 1")
        self.assertIs(are_origins(job, blocks, (2,), (("a", 2),)), True)
        self.assertIs(are_origins(job, blocks, (2,), (("a", 0), ("a", 1))), True)
        self.assertIs(are_origins(job, blocks, (2,), (("a", 0), ("a", 2))), False)

    def test_a_block_told_twice(self):
        blocks = {"a": [((5, "p"),), ((5, "p"),)], "b": [()]}
        job = job_by("c = fold a: count() as n")
        self.assertIs(are_origins(job, blocks, (2,), (("a", 0), ("a", 1))), True)
        self.assertIs(are_origins(job, blocks, (2,), (("a", 0), ("a", 0))), False)

    def test_a_block_of_a_table_that_plays_no_part(self):
        job = job_by("c = unlike a")
        self.assertIs(are_origins(job, BLOCKS, (1, "p"), (("a", 0), ("b", 0))), False)

    def test_by_the_words(self):
        some = 0
        for seed, job, data, _, blocks in random_plots(range(300), 5):
            rng = makers.source(seed)
            rows = answer(job, data)
            pairs = [(name, number) for name in blocks for number in range(len(blocks[name]))]
            if rows and len(pairs) < 8:
                for _ in range(12):
                    row = rng.choice(rows)
                    thing = tuple(sorted(rng.sample(pairs, rng.randint(0, min(3, len(pairs))))))
                    want = are_by_the_words(job, blocks, row, thing)
                    self.assertIs(are_origins(job, blocks, row, thing), want)
                    some += want
        self.assertGreater(some, 30)


if __name__ == "__main__":
    unittest.main()
