"""[1], [23], [25]: whatever falls, what is whole has the rows of its name, and answers are the plain ones."""

import unittest

from countedonce.meaning import meaning
from countedonce.plans import inputs_of, needed_tasks, tasks_of
from tests import makers
from tests.globe import Globe
from tests.plots import plots, random_plots


def longest_way(plan):
    """How many tasks stand behind one another at most, blocks not counted."""
    long = {}
    for task in tasks_of(plan):
        reads = inputs_of(plan, task)
        long[task] = 1 + max(long[file[:2]] for file in reads) if reads else 0
    return max(long[task] for task in needed_tasks(plan))


def works(plan):
    return len([task for task in needed_tasks(plan) if inputs_of(plan, task)])


class Histories(unittest.TestCase):
    def test_in_peace_each_task_is_worked_once(self):
        for _, job, data, plan, blocks in plots(({"a": 2, "b": 3},)):
            for machines, copies, patience in ((1, 1, 1), (3, 2, 1), (5, 1, 2)):
                globe = Globe(plan, blocks, machines, copies, patience)
                rounds = 0
                while globe.middle.answer is None:
                    globe.fair_round()
                    rounds += 1
                self.assertEqual(globe.answers, [meaning(job, data)])
                self.assertLessEqual(rounds, 2 * longest_way(plan) + 3)
                self.assertEqual(globe.worked(), works(plan))
                self.assertEqual(globe.wrong(), [])

    def test_whatever_falls(self):
        answers = ends = 0
        for seed, job, data, plan, blocks in random_plots(range(400), 4):
            want = meaning(job, data)
            rng = makers.source(seed)
            globe = Globe(plan, blocks, rng.randint(1, 5), rng.randint(1, 5), rng.randint(1, 2))
            for _ in range(8):
                globe.play(rng, 60)
                self.assertEqual(globe.wrong(), [])
            answers += len(globe.answers)
            if globe.has_all_blocks():
                rounds = 0
                while globe.middle.answer is None:
                    globe.fair_round()
                    rounds += 1
                    self.assertLessEqual(rounds, 2 * (tasks_of(plan)[-1][0] + 1) + 6)
                ends += 1
            self.assertTrue(all(answer == want for answer in globe.answers))
            self.assertEqual(globe.wrong(), [])
        self.assertGreater(answers, 25)
        self.assertGreater(ends, 100)

    def test_a_block_of_which_each_copy_burnt_is_told_lost(self):
        for _, _, _, plan, blocks in plots(({"a": 2, "b": 3},), (2,)):
            globe = Globe(plan, blocks, 3, 1, 1)
            globe.machines[0].burn()
            for _ in range(3):
                globe.fair_round()
            wanted = [task for number, task in enumerate(tasks for tasks in tasks_of(plan) if not inputs_of(plan, tasks))
                      if number % 3 == 0 and task in needed_tasks(plan)]
            self.assertEqual(globe.middle.lost, tuple(wanted))
            self.assertIsNone(globe.middle.answer)


if __name__ == "__main__":
    unittest.main()
