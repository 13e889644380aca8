"""[16] what tasks do, [17] plain working."""

import copy
import unittest

from countedonce.blocks import block_files, blocks_of
from countedonce.meaning import meaning
from countedonce.plans import answer_files, files_of, inputs_of, plan_of, tasks_of
from countedonce.tasks import all_files, answer_of, plain_answer, task_rows
from tests.plots import DATA, JOBS, answer, job_of, plots, random_plots


def rows_in(plan, blocks):
    """How many rows stand in all files."""
    return sum(len(rows) for rows in all_files(plan, blocks).values())


class Tasks(unittest.TestCase):
    def test_tasks_hang_on_nothing_else_and_change_nothing(self):
        for _, _, _, plan, blocks in plots():
            kept_plan = copy.deepcopy(plan)
            files = all_files(plan, blocks)
            self.assertEqual(plan, kept_plan)
            for task in tasks_of(plan):
                if inputs_of(plan, task):
                    lists = [files[file] for file in inputs_of(plan, task)]
                    as_lists = [list(rows) for rows in lists]
                    kept = copy.deepcopy(as_lists)
                    told = task_rows(plan, task, as_lists)
                    self.assertEqual(as_lists, kept)
                    self.assertIsInstance(told, tuple)
                    self.assertEqual(len(told), len(files_of(plan, task)))
                    self.assertEqual(task_rows(plan, task, as_lists), told)
                    self.assertEqual(task_rows(plan, task, [tuple(rows) for rows in lists]), told)
                    self.assertEqual(task_rows(plan, task, tuple(as_lists)), told)
                    self.assertEqual(told, tuple([files[file] for file in files_of(plan, task)]))

    def test_a_block_reads_nothing_and_tells_nothing(self):
        plan = plan_of(job_of("fold"), {"a": 2}, 2, True)
        self.assertEqual(task_rows(plan, tasks_of(plan)[0], []), ((),))

    def test_rows_are_not_those_that_were_passed(self):
        job = job_of("union")
        plan = plan_of(job, {}, 1, True)
        for task in tasks_of(plan):
            if inputs_of(plan, task):
                lists = [[(1, "p")] for _ in inputs_of(plan, task)]
                told = task_rows(plan, task, lists)
                kept = copy.deepcopy(told)
                for rows in lists:
                    rows.append((2, "q"))
                self.assertEqual(told, kept)


class Plain(unittest.TestCase):
    def test_every_kind_of_step_as_the_meaning(self):
        for name, job, data, plan, blocks in plots():
            want = answer(job, data)
            self.assertEqual(meaning(job, data), want)
            self.assertEqual(plain_answer(plan, blocks), want, name)
            self.assertTrue(want, name)

    def test_tables_without_rows(self):
        for data in ({"a": [], "b": []}, {"a": DATA["a"], "b": []}, {"a": [], "b": DATA["b"]}):
            for name in JOBS:
                job = job_of(name)
                for pieces in (1, 3):
                    plan = plan_of(job, {"a": 3}, pieces, pieces == 1)
                    self.assertEqual(plain_answer(plan, blocks_of(data, {"a": 3})), answer(job, data))

    def test_a_table_that_lacks_has_no_rows(self):
        plan = plan_of(job_of("several"), {"a": 2}, 2, True)
        self.assertEqual(plain_answer(plan, blocks_of({"a": DATA["a"]}, {"a": 2})), [])
        self.assertEqual(plain_answer(plan, {}), [])
        plan = plan_of(job_of("fold"), {"b": 2}, 2, True)
        self.assertEqual(plain_answer(plan, {"a": [DATA["a"]]}), answer(job_of("fold"), DATA))

    def test_random_jobs_as_the_meaning(self):
        some = 0
        for seed, job, data, plan, blocks in random_plots(range(1500)):
            want = answer(job, data)
            some += len(want) > 1
            self.assertEqual(plain_answer(plan, blocks), want, seed)
        self.assertGreater(some, 500)

    def test_all_files(self):
        for _, job, data, plan, blocks in plots():
            kept = copy.deepcopy(blocks)
            files = all_files(plan, blocks)
            self.assertEqual(blocks, kept)
            self.assertEqual(sorted(files), [file for task in tasks_of(plan) for file in files_of(plan, task)])
            told = [files[file] for file in block_files(plan)]
            self.assertEqual([list(rows) for rows in told], [list(rows) for name in "ab" for rows in blocks[name]])
            self.assertEqual(answer_of(plan, files), meaning(job, data))
            self.assertEqual(answer_of(plan, {file: files[file] for file in answer_files(plan)[::-1]}),
                             meaning(job, data))
            self.assertIsInstance(answer_of(plan, files), list)

    def test_blocks_as_lists_and_tuples(self):
        for name in ("several", "union", "read", "sort"):
            job = job_of(name)
            plan = plan_of(job, {"a": 2}, 2, True)
            blocks = blocks_of(DATA, {"a": 2})
            want = plain_answer(plan, blocks)
            self.assertEqual(plain_answer(plan, {key: [list(rows) for rows in its] for key, its in blocks.items()}), want)
            self.assertEqual(plain_answer(plan, {key: tuple(its) for key, its in blocks.items()}), want)

    def test_blocks_of_other_sizes_than_told(self):
        job = job_of("several")
        plan = plan_of(job, {"a": 3, "b": 2}, 2, True)
        rows, others = DATA["a"], DATA["b"]
        blocks = {"a": [rows[8:], [], rows[:8]], "b": [[], others[::-1]]}
        self.assertEqual(plain_answer(plan, blocks), answer(job, DATA))

    def test_folds_ahead_make_what_stands_between_smaller(self):
        for name in ("fold", "fold without keys", "several"):
            job = job_of(name)
            blocks = blocks_of(DATA, {"a": 2})
            ahead = rows_in(plan_of(job, {"a": 2}, 2, True), blocks)
            self.assertLess(ahead, rows_in(plan_of(job, {"a": 2}, 2, False), blocks))

    def test_hot_keys_are_spread_over_all_pieces(self):
        job = job_of("fold")
        rows = [(number, "p") for number in range(60)]
        for parts in (1, 3):
            blocks = blocks_of({"a": rows}, {"a": parts})
            for hows, want in ((None, 60), ({"c": (("p",),)}, 12), ({"c": (("q",),)}, 60)):
                plan = plan_of(job, {"a": parts}, 5, False, hows)
                files = all_files(plan, blocks)
                cut = [task for task in tasks_of(plan) if set(inputs_of(plan, task)) <= set(block_files(plan))]
                many = [sum(len(files[file]) for file in inputs_of(plan, task)) for task in tasks_of(plan)
                        if inputs_of(plan, task) and task not in cut]
                self.assertEqual(max(many), want)
                self.assertEqual(plain_answer(plan, blocks), answer(job, {"a": rows, "b": []}))

    def test_states_of_hot_keys_made_ahead_are_spread_as_well(self):
        job = job_of("fold")
        rows = [(number, "p") for number in range(60)]
        blocks = blocks_of({"a": rows}, {"a": 10})
        plan = plan_of(job, {"a": 10}, 5, True, {"c": (("p",),)})
        files = all_files(plan, blocks)
        many = [sum(len(files[file]) for file in inputs_of(plan, task)) for task in tasks_of(plan)
                if len(inputs_of(plan, task)) == 10]
        self.assertEqual(many, [2] * 5)


if __name__ == "__main__":
    unittest.main()
