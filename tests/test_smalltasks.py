"""[20] small tasks."""

import copy
import unittest
from unittest import mock

from countedonce import smalltasks
from countedonce.blocks import blocks_of
from countedonce.errors import BadThing
from countedonce.plans import inputs_of, plan_of, tasks_of
from countedonce.smalltasks import task_rows_small
from countedonce.sorting import sorted_in_runs
from countedonce.tasks import all_files, task_rows
from tests.plots import DATA, job_of, plots, random_plots


def tasks_with_lists(plan, blocks):
    files = all_files(plan, blocks)
    for task in tasks_of(plan):
        if inputs_of(plan, task):
            yield task, [files[file] for file in inputs_of(plan, task)]


class Small(unittest.TestCase):
    def test_the_same_as_task_rows(self):
        for _, _, _, plan, blocks in plots(({"a": 2, "b": 3},), (1, 3)):
            for task, lists in tasks_with_lists(plan, blocks):
                want = task_rows(plan, task, lists)
                for memory, width in ((1, 2), (2, 3), (100, 2)):
                    as_lists = [list(rows) for rows in lists]
                    kept = copy.deepcopy(as_lists)
                    told = task_rows_small(plan, task, as_lists, memory, width)
                    self.assertEqual(told, want)
                    self.assertEqual([list(rows) for rows in told], [list(rows) for rows in want])
                    self.assertEqual(as_lists, kept)
                    self.assertEqual(task_rows_small(plan, task, lists, memory, width), want)

    def test_random_plans(self):
        for seed, _, _, plan, blocks in random_plots(range(300)):
            for task, lists in tasks_with_lists(plan, blocks):
                self.assertEqual(task_rows_small(plan, task, lists, 1 + seed % 4, 2 + seed % 3),
                                 task_rows(plan, task, lists))

    def test_no_room_for_any_task(self):
        for name in ("filter", "map", "union", "join", "fold", "sort", "unlike"):
            for data in (DATA, {"a": [], "b": []}):
                plan = plan_of(job_of(name), {}, 2, True)
                for task, lists in tasks_with_lists(plan, blocks_of(data, {})):
                    for memory, width in ((0, 2), (-1, 2), (1, 1), (9, 0), (4, -1), (0, 1)):
                        with self.assertRaises(BadThing):
                            task_rows_small(plan, task, lists, memory, width)

    def test_sorts_are_made_in_runs(self):
        made = []

        def watched(rows, at, memory, width):
            told = sorted_in_runs(rows, at, memory, width)
            made.append((len(rows), memory, width, told[1]))
            return told

        plan = plan_of(job_of("sort"), {}, 1, True)
        with mock.patch.object(smalltasks, "sorted_in_runs", watched):
            for task, lists in tasks_with_lists(plan, blocks_of(DATA, {})):
                task_rows_small(plan, task, lists, 2, 3)
        self.assertIn((10, 2, 3, 2), made)


if __name__ == "__main__":
    unittest.main()
