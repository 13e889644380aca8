"""[31] costs."""

import copy
import unittest

from countedonce.blocks import blocks_of
from countedonce.costs import (
    cuts_for, longest_block, longest_way, rounds_in_peace, rows_cut, rows_read, works_in_peace)
from countedonce.errors import BadThing
from countedonce.jobreader import read_job
from countedonce.plans import inputs_of, needed_tasks, plan_of, tasks_of
from countedonce.tasks import all_files
from tests import clerk, makers
from tests.plots import DATA, HEAD, HOT, JOBS, job_of, plots, random_plots


def planned(name, cuts, pieces, is_ahead, hows=None):
    """A plan and all of its files."""
    plan = plan_of(job_of(name), cuts, pieces, is_ahead, hows)
    return plan, all_files(plan, blocks_of(DATA, cuts))


class Cuts(unittest.TestCase):
    def test_edges(self):
        rows = [(number,) for number in range(12)]
        for many, most, want in ((0, 5, 1), (1, 5, 1), (4, 5, 1), (5, 5, 1), (6, 5, 2), (10, 5, 2), (11, 5, 3), (12, 5, 3),
                                 (12, 1, 12), (12, 11, 2), (12, 12, 1), (12, 10 ** 9, 1), (0, 1, 1), (1, 1, 1)):
            self.assertEqual(cuts_for({"a": rows[:many]}, most), {"a": want}, (many, most))

    def test_several_tables(self):
        data = {"a": [(1,)] * 7, "b": (), "c": ((1,),) * 3}
        self.assertEqual(cuts_for(data, 3), {"a": 3, "b": 1, "c": 1})
        self.assertEqual(cuts_for({}, 3), {})

    def test_the_fewest(self):
        for many in range(0, 40):
            for most in range(1, 15):
                data = {"a": [(1,)] * many}
                cuts = cuts_for(data, most)
                self.assertLessEqual(longest_block(data, cuts), most)
                if cuts["a"] > 1:
                    self.assertGreater(longest_block(data, {"a": cuts["a"] - 1}), most)

    def test_below_1(self):
        for most in (0, -1, -10 ** 9):
            for data in ({"a": [(1,)]}, {}):
                with self.assertRaises(BadThing) as caught:
                    cuts_for(data, most)
                self.assertEqual(caught.exception.thing, most)

    def test_longest_block(self):
        data = {"a": [(1,)] * 7, "b": [(1,)] * 4}
        self.assertEqual(longest_block(data, {"a": 3, "b": 2}), 3)
        self.assertEqual(longest_block(data, {"a": 7, "b": 2}), 2)
        self.assertEqual(longest_block(data, {"a": 3}), 4)
        self.assertEqual(longest_block(data, {}), 7)
        self.assertEqual(longest_block(data, {"a": 9, "b": 9, "z": 1}), 1)
        self.assertEqual(longest_block({"a": [], "b": ()}, {"a": 3}), 0)
        self.assertEqual(longest_block({}, {"a": 3}), 0)


class Rows(unittest.TestCase):
    def test_rows_read_by_hand(self):
        plan, files = planned("filter", {"a": 3}, 2, True)
        self.assertEqual(rows_read(plan, files), 10)
        plan, files = planned("read", {"a": 3}, 2, True)
        self.assertEqual(rows_read(plan, files), 0)
        plan, files = planned("left out", {"a": 3}, 2, True)
        self.assertEqual(rows_read(plan, files), 10)
        # Each part of one table, and for each part all of the other one.
        plan, files = planned("join", {"a": 3, "b": 2}, 2, True, {"c": ()})
        self.assertIn(rows_read(plan, files), (10 + 3 * 6, 6 + 2 * 10))
        # Rows are read to be cut, and then as pieces.
        plan, files = planned("join", {"a": 3, "b": 2}, 2, True)
        self.assertEqual(rows_read(plan, files), 2 * (10 + 6))

    def test_a_file_that_is_read_twice_counts_twice(self):
        for many in (1, 2, 5):
            plan, files = planned("join with itself", {"a": many}, 2, True, {"c": ()})
            self.assertEqual(rows_read(plan, files), 10 + many * 10)

    def test_rows_read_task_by_task(self):
        for _, _, _, plan, blocks in random_plots(range(300)):
            files = {file: list(rows) for file, rows in all_files(plan, blocks).items()}
            want = sum(len(files[file]) for task in needed_tasks(plan) for file in inputs_of(plan, task))
            self.assertEqual(rows_read(plan, files), want)

    def test_what_is_not_needed_is_not_asked_for(self):
        plan, files = planned("fold", {"a": 2, "b": 2}, 2, True)
        needed = {file: rows for file, rows in files.items() if file[:2] in needed_tasks(plan)}
        self.assertEqual(rows_read(plan, needed), rows_read(plan, files))
        self.assertEqual(rows_cut(plan, needed), rows_cut(plan, files))

    def test_rows_cut_by_hand(self):
        for name in ("filter", "map", "read", "union", "sort", "left out"):
            plan, files = planned(name, {"a": 3}, 2, True)
            self.assertEqual(rows_cut(plan, files), 0, name)
        for pieces in (1, 2, 5):
            plan, files = planned("join", {"a": 3, "b": 2}, pieces, True)
            self.assertEqual(rows_cut(plan, files), 10 + 6)
            # Of states one for each key: in the two blocks there are 2 and 3 keys.
            plan, files = planned("fold", {"a": 2}, pieces, True)
            self.assertEqual(rows_cut(plan, files), 2 + 3)
            plan, files = planned("fold", {"a": 2}, pieces, False)
            self.assertEqual(rows_cut(plan, files), 10)

    def test_never_more_with_folds_ahead(self):
        for name in JOBS:
            for cuts in ({}, {"a": 2, "b": 3}, {"a": 14, "b": 1}):
                for pieces in (1, 2, 3, 7):
                    for hows in (None, HOT.get(name)):
                        ahead, plain = [rows_cut(*planned(name, cuts, pieces, is_ahead, hows)) for is_ahead in (True, False)]
                        self.assertLessEqual(ahead, plain)

    def test_never_more_with_folds_ahead_for_drawn_jobs(self):
        less = 0
        for seed in range(1500):
            rng = makers.source(seed)
            job, columns = makers.job(rng, 6)
            data = makers.data(rng, job)
            told = clerk.all_rows(job, data, columns)
            if max([len(rows) for rows in told.values()]) <= 300:
                cuts, pieces, _, hows = makers.choice(rng, job, told, columns)
                blocks = blocks_of(data, cuts)
                plans = [plan_of(job, cuts, pieces, is_ahead, hows) for is_ahead in (True, False)]
                ahead, plain = [rows_cut(plan, all_files(plan, blocks)) for plan in plans]
                self.assertLessEqual(ahead, plain, seed)
                less += ahead < plain
        self.assertGreater(less, 50)

    def test_never_more_with_folds_ahead_for_hot_keys(self):
        less = 0
        for seed in range(600):
            rng = makers.source(seed)
            rows = [(rng.randint(0, 3), rng.choice("pqrs")) for _ in range(rng.randint(0, 40))]
            keys = rng.sample(("t", "x"), rng.randint(0, 2))
            by = " by " + ", ".join(keys) if keys else ""
            job = read_job(HEAD + "c = fold a" + by + ": count() as n, unlike(x) as u\nanswer c")
            values = {"t": "pqrs", "x": (0, 1, 2, 3)}
            hot = tuple([tuple([rng.choice(values[key]) for key in keys]) for _ in range(rng.randint(0, 5))])
            cuts, pieces = {"a": rng.randint(1, 9)}, rng.randint(1, 7)
            blocks = blocks_of({"a": rows}, cuts)
            plans = [plan_of(job, cuts, pieces, is_ahead, {"c": hot}) for is_ahead in (True, False)]
            ahead, plain = [rows_cut(plan, all_files(plan, blocks)) for plan in plans]
            self.assertLessEqual(ahead, plain, seed)
            less += ahead < plain
        self.assertGreater(less, 200)


class Ways(unittest.TestCase):
    def test_by_hand(self):
        for name, want in (("read", 0), ("filter", 1), ("map", 1), ("left out", 1), ("union with itself", 1), ("fold", 2),
                           ("fold behind a fold", 4), ("sort", 2)):
            plan, _ = planned(name, {"a": 2}, 2, True)
            self.assertEqual((longest_way(plan), rounds_in_peace(plan)), (want, 2 * want + 3), name)
        plan, _ = planned("join", {"a": 2}, 2, True, {"c": ()})
        self.assertEqual(longest_way(plan), 1)

    def test_of_two_ways_the_longer_one(self):
        job = read_job(HEAD + "d = filter a where x\ne = filter d where x\nc = union a, e\nanswer c")
        self.assertEqual(longest_way(plan_of(job, {}, 2, True)), 3)
        job = read_job(HEAD + "d = filter a where x\ne = filter d where x\nc = union e, a\nanswer c")
        self.assertEqual(longest_way(plan_of(job, {}, 2, True)), 3)

    def test_by_the_words(self):
        for _, _, _, plan, _ in random_plots(range(300)):
            long = {}
            for task in tasks_of(plan):
                reads = inputs_of(plan, task)
                long[task] = 1 + max(long[file[:2]] for file in reads) if reads else 0
            self.assertEqual(longest_way(plan), max(long[task] for task in needed_tasks(plan)))
            self.assertEqual(rounds_in_peace(plan), 2 * longest_way(plan) + 3)
            self.assertEqual(works_in_peace(plan), len([task for task in needed_tasks(plan) if inputs_of(plan, task)]))

    def test_works_in_peace(self):
        plan, _ = planned("filter", {"a": 3, "b": 4}, 2, True)
        self.assertEqual(works_in_peace(plan), 3)
        plan, _ = planned("read", {"a": 3}, 2, True)
        self.assertEqual((works_in_peace(plan), rounds_in_peace(plan)), (0, 3))
        plan, _ = planned("left out", {"a": 3}, 2, True)
        self.assertEqual(works_in_peace(plan), 3)

    def test_nothing_is_changed(self):
        for _, _, data, plan, blocks in plots(({"a": 2},), (2,)):
            files = all_files(plan, blocks)
            kept = copy.deepcopy((data, plan, files))
            first = rows_read(plan, files), rows_cut(plan, files), longest_way(plan), cuts_for(data, 3)
            self.assertEqual((rows_read(plan, files), rows_cut(plan, files), longest_way(plan), cuts_for(data, 3)), first)
            self.assertEqual((data, plan, files), kept)


if __name__ == "__main__":
    unittest.main()
