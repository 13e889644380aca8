"""[32] reports: states, progress, and texts for people."""

import unittest

from countedonce.blocks import block_files, blocks_of
from countedonce.fair import fair_round, finish
from countedonce.plans import files_of, inputs_of, needed_tasks, plan_of
from countedonce.reports import answer_text, plan_text, progress, states_of, world_text
from countedonce.tasks import all_files
from countedonce.worlds import World, played
from tests.plots import DATA, answer, job_of, plots
from tests.tales import seen, worlds

JOB = job_of("several")
CUTS = {"a": 3, "b": 2}
PLAN = plan_of(JOB, CUTS, 2, True)
BLOCKS = blocks_of(DATA, CUTS)
FILES = all_files(PLAN, BLOCKS)
NEEDED = needed_tasks(PLAN)
TASKS = [task for task in NEEDED if inputs_of(PLAN, task)]
CUT = [task for task in TASKS if len(files_of(PLAN, task)) == 2][0]


def fresh():
    return World(PLAN, BLOCKS, 3, 2, 1)


def order(world, number, task):
    places = tuple([(file, ()) for file in inputs_of(PLAN, task)])
    world.machines[number].letter(PLAN, ("work", number, (1, 1), task, places))


def states_by_the_words(world):
    states = {}
    for task in needed_tasks(world.plan):
        states[task] = "open"
        for machine in world.machines:
            if task in [work.task for work in machine.works] and states[task] == "open":
                states[task] = "held"
            if set(files_of(world.plan, task)) <= set(machine.whole_files()):
                states[task] = "done"
    return states


class States(unittest.TestCase):
    def test_fresh(self):
        states = states_of(fresh())
        self.assertEqual(list(states), NEEDED)
        self.assertEqual(states, {task: "open" if task in TASKS else "done" for task in NEEDED})
        self.assertEqual(progress(fresh()), (len(NEEDED), len(NEEDED) - len(TASKS), 0))
        self.assertIsInstance(progress(fresh()), tuple)

    def test_held(self):
        world = fresh()
        order(world, 2, TASKS[-1])
        order(world, 1, TASKS[-1])
        order(world, 0, TASKS[1])
        self.assertEqual([task for task, state in states_of(world).items() if state == "held"], [TASKS[1], TASKS[-1]])
        self.assertEqual(progress(world), (len(NEEDED), len(NEEDED) - len(TASKS), 2))
        played(world, [("fall", 0, 0), ("fall", 1, 0)])
        self.assertEqual([task for task, state in states_of(world).items() if state == "held"], [TASKS[-1]])

    def test_done_is_more_than_held(self):
        world = fresh()
        order(world, 2, CUT)
        for file in files_of(PLAN, CUT):
            self.assertEqual(states_of(world)[CUT], "held")
            world.machines[1].disk[file] = (len(FILES[file]), FILES[file])
        self.assertEqual(states_of(world)[CUT], "done")
        world.event("fall", 1, 0)
        self.assertEqual(states_of(world)[CUT], "done")

    def test_all_files_must_be_whole_on_one_machine(self):
        world = fresh()
        for number, file in enumerate(files_of(PLAN, CUT)):
            world.machines[number].disk[file] = (len(FILES[file]), FILES[file])
        self.assertEqual(states_of(world)[CUT], "open")

    def test_a_block_that_burnt_is_open(self):
        world = played(fresh(), [("burn", number, 0) for number in range(3)])
        self.assertEqual(set(states_of(world).values()), {"open"})
        self.assertEqual(progress(world), (len(NEEDED), 0, 0))

    def test_what_is_not_needed_is_not_told(self):
        plan = plan_of(job_of("fold"), CUTS, 2, True)
        world = World(plan, BLOCKS, 3, 2, 1)
        self.assertEqual(list(states_of(world)), needed_tasks(plan))
        self.assertNotIn(block_files(plan)[-1][:2], states_of(world))

    def test_behind_finish(self):
        for _, _, _, plan, blocks in plots(({"a": 2},), (2,)):
            world = World(plan, blocks, 2, 1, 1)
            finish(world)
            self.assertEqual(states_of(world), {task: "done" for task in needed_tasks(plan)})
            many = len(needed_tasks(plan))
            self.assertEqual(progress(world), (many, many, 0))

    def test_behind_histories(self):
        seen_states = set()
        for _, _, _, _, world in worlds(range(400)):
            before = seen(world)
            states = states_of(world)
            self.assertEqual(states, states_by_the_words(world))
            self.assertEqual(list(states), needed_tasks(world.plan))
            told = list(states.values())
            self.assertEqual(progress(world), (len(told), told.count("done"), told.count("held")))
            self.assertEqual(seen(world), before)
            seen_states.update(told)
        self.assertEqual(seen_states, {"done", "held", "open"})


class Texts(unittest.TestCase):
    def test_plans(self):
        for _, _, _, plan, _ in plots(({}, {"a": 2}), (2,)):
            self.assertTrue(plan_text(plan))
            self.assertIsInstance(plan_text(plan), str)
            self.assertEqual(plan_text(plan), plan_text(plan))
        self.assertNotEqual(plan_text(PLAN), plan_text(plan_of(job_of("fold"), CUTS, 2, True)))

    def test_answers(self):
        for told in (None, [], (), answer(JOB, DATA), tuple(answer(JOB, DATA)), [(1, "p"), (-5, "")],
                     ("answer", ((1, "p"),)), ("lost", ((0, 1),))):
            self.assertTrue(answer_text(told))
            self.assertIsInstance(answer_text(told), str)
        self.assertNotEqual(answer_text([]), answer_text(None))
        for word in ("p", "12345", "-7"):
            self.assertIn(word, answer_text([("p", 12345), ("q", -7)]))

    def test_worlds(self):
        for _, _, _, _, world in worlds(range(60)):
            before = seen(world)
            text = world_text(world)
            self.assertTrue(text)
            self.assertIsInstance(text, str)
            self.assertEqual(world_text(world), text)
            self.assertEqual(seen(world), before)
        world = fresh()
        texts = [world_text(played(fresh(), [event])) for event in (
            ("stop", 0, 0), ("begin", 0, 0), ("begin torn", 0, 0), ("fall", 0, 0), ("fall", 1, 0), ("burn", 0, 0))]
        self.assertEqual(len(set(texts)), 6)
        world = fresh()
        texts = [world_text(world)]
        for _ in range(3):
            fair_round(world)
            texts.append(world_text(world))
        self.assertEqual(len(set(texts)), 4)


if __name__ == "__main__":
    unittest.main()
