"""[30] audits."""

import copy
import unittest

from countedonce.audits import audited, files_in, wrong_task
from countedonce.blocks import block_files, blocks_of
from countedonce.fair import finish
from countedonce.plans import answer_files, files_of, inputs_of, needed_tasks, plan_of, tasks_of
from countedonce.tasks import all_files, answer_of, task_rows
from countedonce.worlds import World, played
from tests import makers
from tests.plots import DATA, answer, job_of, plots, random_plots
from tests.tales import worlds

JOB = job_of("several")
CUTS = {"a": 3, "b": 2}
PLAN = plan_of(JOB, CUTS, 2, True)
BLOCKS = blocks_of(DATA, CUTS)
FILES = all_files(PLAN, BLOCKS)


def changes(rows):
    """Other rows than these."""
    told = [rows + rows[:1], rows + ((99, "z"),), None, 5, "", {}]
    if rows:
        told += [rows[1:], rows[:-1], ()]
    if rows != rows[::-1]:
        told.append(rows[::-1])
    return [other for other in told if other != rows]


class Wrong(unittest.TestCase):
    def test_files_told_rightly(self):
        for _, _, _, plan, blocks in plots():
            files = all_files(plan, blocks)
            self.assertIsNone(wrong_task(plan, blocks, files))
            self.assertIsNone(wrong_task(plan, blocks, {file: list(rows) for file, rows in files.items()}))
            as_lists = {name: [list(rows) for rows in its] for name, its in blocks.items()}
            self.assertIsNone(wrong_task(plan, as_lists, files))
            needed = {file: rows for file, rows in files.items() if file[:2] in needed_tasks(plan)}
            self.assertIsNone(wrong_task(plan, blocks, needed))

    def test_each_file_changed_left_out_or_in_another_order(self):
        for _, _, _, plan, blocks in plots(({"a": 2, "b": 3},), (2,)):
            files = all_files(plan, blocks)
            for task in needed_tasks(plan):
                for file in files_of(plan, task):
                    for rows in changes(files[file]):
                        self.assertEqual(wrong_task(plan, blocks, {**files, file: rows}), task)
                    without = {other: rows for other, rows in files.items() if other != file}
                    self.assertEqual(wrong_task(plan, blocks, without), task)

    def test_the_first_one_of_several(self):
        needed = needed_tasks(PLAN)
        self.assertEqual(wrong_task(PLAN, BLOCKS, {}), needed[0])
        for seed in range(100):
            rng = makers.source(seed)
            some = rng.sample(needed, rng.randint(1, 5))
            files = dict(FILES)
            for task in some:
                file = rng.choice(files_of(PLAN, task))
                files[file] = rng.choice(changes(files[file]))
                if rng.random() < 0.4:
                    del files[file]
            self.assertEqual(wrong_task(PLAN, BLOCKS, files), min(some))

    def test_what_is_not_needed_may_be_wrong(self):
        plan = plan_of(job_of("fold"), CUTS, 2, True)
        files = all_files(plan, BLOCKS)
        for file in block_files(plan)[3:]:
            self.assertIsNone(wrong_task(plan, BLOCKS, {**files, file: ()}))
            files[file] = None
        self.assertIsNone(wrong_task(plan, BLOCKS, files))
        files[(99, 0, 0)] = ((1,),)
        self.assertIsNone(wrong_task(plan, BLOCKS, files))

    def test_files_of_other_blocks(self):
        new = {"a": [BLOCKS["a"][0], BLOCKS["a"][1][::-1], BLOCKS["a"][2]], "b": BLOCKS["b"]}
        self.assertEqual(wrong_task(PLAN, new, FILES), block_files(PLAN)[1][:2])
        self.assertEqual(wrong_task(PLAN, BLOCKS, all_files(PLAN, new)), block_files(PLAN)[1][:2])
        self.assertIsNone(wrong_task(PLAN, new, all_files(PLAN, new)))

    def test_files_that_hang_together_but_on_a_wrong_one(self):
        # All that is behind a wrong file is told by this file: it alone is wrong.
        for task in [task for task in needed_tasks(PLAN) if inputs_of(PLAN, task)]:
            files = dict(FILES)
            file = files_of(PLAN, task)[0]
            if len(files[file]) < 2:
                continue
            files[file] = files[file][1:]
            for other in tasks_of(PLAN):
                if other > task and inputs_of(PLAN, other):
                    rows = task_rows(PLAN, other, [files[source] for source in inputs_of(PLAN, other)])
                    files.update(zip(files_of(PLAN, other), rows))
            self.assertEqual(wrong_task(PLAN, BLOCKS, files), task)
            self.assertFalse(audited(PLAN, BLOCKS, files, answer_of(PLAN, files)))

    def test_blocks_that_lack(self):
        plan = plan_of(job_of("fold"), {"a": 3}, 2, True)
        blocks = {"a": BLOCKS["a"]}
        self.assertIsNone(wrong_task(plan, blocks, all_files(plan, blocks)))
        plan = plan_of(JOB, {"a": 3}, 2, True)
        files = all_files(plan, blocks)
        self.assertIsNone(wrong_task(plan, blocks, files))
        self.assertEqual(wrong_task(plan, {**blocks, "b": [(("p", 1),)]}, files), block_files(plan)[3][:2])

    def test_drawn(self):
        for seed, _, _, plan, blocks in random_plots(range(200)):
            rng = makers.source(seed)
            files = all_files(plan, blocks)
            self.assertIsNone(wrong_task(plan, blocks, files))
            task = rng.choice(needed_tasks(plan))
            file = rng.choice(files_of(plan, task))
            self.assertEqual(wrong_task(plan, blocks, {**files, file: rng.choice(changes(files[file]))}), task)


class Audited(unittest.TestCase):
    def test_right_and_wrong_answers(self):
        for _, job, data, plan, blocks in plots(({}, {"a": 2, "b": 3}), (2,)):
            files = all_files(plan, blocks)
            want = answer(job, data)
            self.assertIs(audited(plan, blocks, files, want), True)
            self.assertIs(audited(plan, blocks, files, tuple(want)), True)
            for wrong in (want[1:], want + want[:1], want[:-1], [], [("z",)], None, "answer", {}, 5):
                if wrong != want:
                    self.assertIs(audited(plan, blocks, files, wrong), False)
            if want != want[::-1]:
                self.assertIs(audited(plan, blocks, files, want[::-1]), False)

    def test_wrong_files(self):
        want = answer(JOB, DATA)
        for task in needed_tasks(PLAN):
            for file in files_of(PLAN, task):
                self.assertIs(audited(PLAN, BLOCKS, {**FILES, file: changes(FILES[file])[0]}, want), False)
                self.assertIs(audited(PLAN, BLOCKS, {key: FILES[key] for key in FILES if key != file}, want), False)
        file = answer_files(PLAN)[0]
        files = {**FILES, file: FILES[file][:1]}
        self.assertIs(audited(PLAN, BLOCKS, files, answer_of(PLAN, files)), False)
        self.assertIs(audited(PLAN, BLOCKS, {}, want), False)

    def test_an_answer_of_no_rows(self):
        blocks = blocks_of({"a": [], "b": []}, CUTS)
        files = all_files(PLAN, blocks)
        self.assertIs(audited(PLAN, blocks, files, []), True)
        self.assertIs(audited(PLAN, blocks, files, None), False)

    def test_nothing_is_changed(self):
        files, blocks = copy.deepcopy(FILES), copy.deepcopy(BLOCKS)
        want = answer(JOB, DATA)
        self.assertTrue(audited(PLAN, blocks, files, want))
        self.assertEqual((files, blocks, want), (FILES, BLOCKS, answer(JOB, DATA)))


class OfWorlds(unittest.TestCase):
    def test_fresh(self):
        world = World(PLAN, BLOCKS, 3, 2, 1)
        self.assertEqual(files_in(world), {file: FILES[file] for file in block_files(PLAN)})
        self.assertEqual(list(files_in(world)), block_files(PLAN))

    def test_what_lies_on_one_disk_alone_or_on_machines_that_are_down(self):
        world = played(World(PLAN, BLOCKS, 3, 1, 1), [("fall", 1, 0), ("burn", 0, 0)])
        self.assertEqual(list(files_in(world)), [file for at, file in enumerate(block_files(PLAN)) if at % 3 != 0])

    def test_torn_files_are_left_out(self):
        world = World(PLAN, BLOCKS, 2, 1, 1)
        one, other = block_files(PLAN)[:2]
        world.machines[0].disk[one] = (len(FILES[one]), FILES[one][:1])
        world.machines[0].disk[other] = (len(FILES[other]), FILES[other][:1])
        self.assertEqual(list(files_in(world)), block_files(PLAN)[1:])
        self.assertEqual(files_in(world)[other], FILES[other])
        world.machines[1].disk[one] = (len(FILES[one]), FILES[one])
        self.assertEqual(files_in(world)[one], FILES[one])

    def test_behind_histories_and_their_end(self):
        some = 0
        for _, _, job, data, world in worlds(range(300)):
            the_files = all_files(world.plan, world.blocks)
            files = files_in(world)
            whole = {file for machine in world.machines for file in machine.whole_files()}
            self.assertEqual(sorted(files), sorted(whole))
            self.assertTrue(all(tuple(rows) == the_files[file] for file, rows in files.items()))
            had = world.middle.answer is not None
            finish(world)
            burnt = set(needed_tasks(world.plan)) - {file[:2] for file in files_in(world)}
            if world.middle.answer is not None and not burnt and not had:
                self.assertTrue(audited(world.plan, world.blocks, files_in(world), world.middle.answer))
                self.assertEqual(world.middle.answer, answer(job, data))
                some += 1
        self.assertGreater(some, 100)


if __name__ == "__main__":
    unittest.main()
