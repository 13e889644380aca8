"""[22] machines, [23] letters."""

import copy
import unittest

from countedonce.blocks import blocks_of
from countedonce.machines import Machine
from countedonce.plans import files_of, inputs_of, plan_of, tasks_of
from countedonce.tasks import all_files
from tests import makers
from tests.plots import DATA, job_of

PLAN = plan_of(job_of("fold"), {"a": 3}, 2, True)
FILES = all_files(PLAN, blocks_of(DATA, {"a": 3}))
# A task that reads a file and writes two, and one that reads three files.
CUT = [task for task in tasks_of(PLAN) if len(files_of(PLAN, task)) == 2][0]
FOLD = [task for task in tasks_of(PLAN) if len(inputs_of(PLAN, task)) == 3][0]
ONE, TWO, THREE = inputs_of(PLAN, FOLD)
(SOURCE,) = inputs_of(PLAN, CUT)
NEAR = plan_of(job_of("join with itself"), {"a": 2}, 2, True, {"c": ()})


def machine_with(*files):
    machine = Machine(2)
    for file in files:
        machine.disk[file] = (len(FILES[file]), FILES[file])
    return machine


def work_letter(task, *machines, turn=(1, 1), plan=PLAN):
    """An order of a task, in which the files that it reads stand on these machines each."""
    return ("work", 2, turn, task, tuple(zip(inputs_of(plan, task), machines)))


def give(file):
    return ("give", 2, file, FILES[file])


def seen(machine):
    works = [(work.task, list(work.wants), dict(work.has)) for work in machine.works]
    return machine.is_up, dict(machine.disk), works, machine.worked


class States(unittest.TestCase):
    def test_new(self):
        machine = Machine(5)
        self.assertEqual((machine.is_up, machine.disk, machine.works, machine.worked), (True, {}, [], 0))
        self.assertEqual(machine.whole_files(), ())
        self.assertIsNone(machine.ready())
        machine.disk[ONE] = (0, ())
        machine.works.append(1)
        self.assertEqual((Machine(5).disk, Machine(5).works), ({}, []))

    def test_fall_burn_rise(self):
        machine = machine_with(ONE, TWO)
        machine.letter(PLAN, work_letter(FOLD, (0,), (1,), (0, 1)))
        self.assertEqual(len(machine.works), 1)
        machine.worked = 3
        disk = dict(machine.disk)
        machine.fall()
        self.assertEqual(seen(machine), (False, disk, [], 3))
        machine.rise()
        self.assertEqual(seen(machine), (True, disk, [], 3))
        machine.letter(PLAN, work_letter(FOLD, (0,), (1,), (0, 1)))
        machine.burn()
        self.assertEqual(seen(machine), (False, {}, [], 3))
        machine.rise()
        machine.rise()
        self.assertEqual(seen(machine), (True, {}, [], 3))
        machine.fall()
        machine.burn()
        machine.fall()
        self.assertEqual(seen(machine), (False, {}, [], 3))

    def test_whole(self):
        machine = Machine(0)
        machine.disk = {(0, 0, 0): (2, ((1,),)), (0, 1, 0): (0, ()), (3, 0, 1): (1, ((1,),)), (1, 0, 0): (3, ()),
                        (0, 2, 0): (2, [(1,), (1,)])}
        self.assertEqual([machine.whole(file) for file in ((0, 0, 0), (0, 1, 0), (3, 0, 1), (1, 0, 0), (0, 2, 0))],
                         [False, True, True, False, True])
        self.assertFalse(machine.whole((9, 9, 9)))
        self.assertEqual(machine.whole_files(), ((0, 1, 0), (0, 2, 0), (3, 0, 1)))

    def test_whole_files_ascend(self):
        machine = machine_with(THREE, ONE, SOURCE, TWO)
        self.assertEqual(machine.whole_files(), tuple(sorted([ONE, TWO, THREE, SOURCE])))

    def test_has_task(self):
        first, second = files_of(PLAN, CUT)
        machine = machine_with(first)
        self.assertFalse(machine.has_task(PLAN, CUT))
        machine.disk[second] = (5, ())
        self.assertFalse(machine.has_task(PLAN, CUT))
        machine.disk[second] = (0, ())
        self.assertTrue(machine.has_task(PLAN, CUT))
        del machine.disk[first]
        self.assertFalse(machine.has_task(PLAN, CUT))

    def test_ready_is_the_first_that_has_all(self):
        machine = Machine(2)
        machine.letter(PLAN, work_letter(FOLD, (0,), (0,), (0,)))
        machine.letter(PLAN, work_letter(CUT, (0,)))
        self.assertIsNone(machine.ready())
        for file in (ONE, TWO):
            machine.letter(PLAN, give(file))
            self.assertIsNone(machine.ready())
        machine.letter(PLAN, give(SOURCE))
        self.assertEqual(machine.ready().task, CUT)
        machine.letter(PLAN, give(THREE))
        self.assertEqual(machine.ready().task, FOLD)


class Letters(unittest.TestCase):
    def test_tell(self):
        machine = machine_with(TWO, ONE)
        machine.disk[THREE] = (len(FILES[THREE]) + 1, FILES[THREE])
        machine.letter(PLAN, work_letter(FOLD, (0,), (0,), (0,)))
        machine.letter(PLAN, work_letter(CUT, (0,)))
        before = seen(machine)
        self.assertEqual(machine.letter(PLAN, ("tell", 2, (4, 7))),
                         [("told", -1, (4, 7), 2, (ONE, TWO), tuple(sorted([CUT, FOLD])))])
        self.assertEqual(seen(machine), before)
        self.assertEqual(Machine(0).letter(PLAN, ("tell", 0, (1, 0))), [("told", -1, (1, 0), 0, (), ())])

    def test_ask(self):
        machine = machine_with(ONE)
        machine.disk[TWO] = (9, FILES[TWO][:1])
        before = seen(machine)
        self.assertEqual(machine.letter(PLAN, ("ask", 2, ONE, 0)), [("give", 0, ONE, FILES[ONE])])
        self.assertEqual(machine.letter(PLAN, ("ask", 2, ONE, -1)), [("give", -1, ONE, FILES[ONE])])
        for file in (TWO, THREE):
            self.assertEqual(machine.letter(PLAN, ("ask", 2, file, 1)), [("lack", 1, file)])
            self.assertEqual(machine.letter(PLAN, ("ask", 2, file, -1)), [])
        self.assertEqual(seen(machine), before)

    def test_work_that_is_done(self):
        machine = machine_with(*files_of(PLAN, CUT))
        self.assertEqual(machine.letter(PLAN, work_letter(CUT, (0, 1))), [])
        self.assertEqual(machine.works, [])

    def test_blocks_are_never_worked(self):
        machine = Machine(2)
        self.assertEqual(machine.letter(PLAN, ("work", 2, (1, 1), SOURCE[:2], ())), [])
        machine.step(PLAN, None)
        self.assertEqual(seen(machine), (True, {}, [], 0))

    def test_new_work(self):
        machine = machine_with(TWO)
        self.assertEqual(machine.letter(PLAN, work_letter(CUT, (2, 1, 0))), [("ask", 1, SOURCE, 2)])
        told = machine.letter(PLAN, work_letter(FOLD, (3, 0), (1, 2), (2, 5, 4)))
        self.assertEqual(told, [("ask", 3, ONE, 2), ("ask", 5, THREE, 2)])
        self.assertEqual([work.task for work in machine.works], [CUT, FOLD])
        work = machine.works[1]
        self.assertEqual((work.wants, work.has), ([ONE, TWO, THREE], {TWO: FILES[TWO]}))
        self.assertIsInstance(work.wants, list)
        self.assertEqual(machine.works[0].has, {})

    def test_places_that_tell_the_machine_itself_or_none(self):
        machine = Machine(2)
        self.assertEqual(machine.letter(PLAN, work_letter(FOLD, (2,), (), (2, 0))), [("ask", 0, THREE, 2)])
        for file in (ONE, TWO, THREE):
            self.assertEqual(machine.letter(PLAN, ("lack", 2, file)), [])
        machine.letter(PLAN, work_letter(FOLD, (4, 2, 5), (), (2, 0)))
        self.assertEqual(machine.letter(PLAN, ("lack", 2, ONE)), [("ask", 5, ONE, 2)])
        self.assertEqual(machine.letter(PLAN, ("lack", 2, ONE)), [])

    def test_all_here(self):
        machine = machine_with(ONE, TWO, THREE)
        self.assertEqual(machine.letter(PLAN, work_letter(FOLD, (0, 2), (1,), (2,))), [])
        self.assertEqual(machine.ready().task, FOLD)
        self.assertEqual(machine.ready().has, {file: FILES[file] for file in (ONE, TWO, THREE)})

    def test_work_goes_on_where_it_stands(self):
        machine = Machine(2)
        machine.letter(PLAN, work_letter(FOLD, (0, 1), (0, 1, 3), (1, 0)))
        machine.letter(PLAN, work_letter(CUT, (0,)))
        machine.letter(PLAN, give(ONE))
        machine.disk[THREE] = (len(FILES[THREE]), FILES[THREE])
        told = machine.letter(PLAN, work_letter(FOLD, (5,), (4, 7), (8, 9), turn=(1, 2)))
        self.assertEqual(told, [("ask", 4, TWO, 2)])
        self.assertEqual([work.task for work in machine.works], [FOLD, CUT])
        self.assertEqual(machine.works[0].has, {ONE: FILES[ONE], THREE: FILES[THREE]})
        # What the first letter told of the second file is forgotten, what the second one told is not.
        self.assertEqual(machine.letter(PLAN, ("lack", 2, TWO)), [("ask", 7, TWO, 2)])
        self.assertEqual(machine.letter(PLAN, ("lack", 2, TWO)), [])
        self.assertEqual(machine.letter(PLAN, work_letter(FOLD, (5,), (), (8,), turn=(1, 3))), [])
        self.assertEqual(machine.letter(PLAN, ("lack", 2, TWO)), [])

    def test_further_machines_told_again_are_not_asked_twice_over(self):
        machine = Machine(2)
        machine.letter(PLAN, work_letter(FOLD, (0, 1, 3), (), ()))
        machine.letter(PLAN, work_letter(FOLD, (0, 1), (), ()))
        self.assertEqual(machine.letter(PLAN, ("lack", 2, ONE)), [("ask", 1, ONE, 2)])
        self.assertEqual(machine.letter(PLAN, ("lack", 2, ONE)), [])

    def test_give_to_several_works(self):
        plan = plan_of(job_of("union with itself"), {}, 1, True)
        tasks = [task for task in tasks_of(plan) if inputs_of(plan, task)]
        file = inputs_of(plan, tasks[0])[0]
        machine = Machine(2)
        for task in tasks:
            self.assertEqual(machine.letter(plan, work_letter(task, (0,), plan=plan)), [("ask", 0, file, 2)])
        self.assertEqual(machine.letter(plan, ("give", 2, file, ((1, "p"),))), [])
        self.assertEqual([work.has for work in machine.works], [{file: ((1, "p"),)}] * 2)
        self.assertEqual(machine.letter(plan, ("give", 2, (0, 5, 0), ((1, "p"),))), [])
        self.assertEqual([work.has for work in machine.works], [{file: ((1, "p"),)}] * 2)
        self.assertEqual(machine.disk, {})

    def test_give_that_nobody_wants(self):
        machine = Machine(2)
        self.assertEqual(machine.letter(PLAN, give(ONE)), [])
        machine.letter(PLAN, work_letter(CUT, (0,)))
        self.assertEqual(machine.letter(PLAN, give(ONE)), [])
        self.assertEqual(machine.works[0].has, {})
        self.assertEqual(machine.disk, {})

    def test_lack(self):
        machine = Machine(2)
        self.assertEqual(machine.letter(PLAN, ("lack", 2, ONE)), [])
        machine.letter(PLAN, work_letter(FOLD, (5, 2, 3, 4), (1,), (0, 6)))
        self.assertEqual(machine.letter(PLAN, ("lack", 2, ONE)), [("ask", 3, ONE, 2)])
        self.assertEqual(machine.letter(PLAN, ("lack", 2, TWO)), [])
        self.assertEqual(machine.letter(PLAN, ("lack", 2, SOURCE)), [])
        self.assertEqual(machine.letter(PLAN, ("lack", 2, ONE)), [("ask", 4, ONE, 2)])
        self.assertEqual(machine.letter(PLAN, ("lack", 2, ONE)), [])
        machine.letter(PLAN, give(THREE))
        self.assertEqual(machine.letter(PLAN, ("lack", 2, THREE)), [])

    def test_lack_for_several_works(self):
        plan = plan_of(job_of("union with itself"), {}, 1, True)
        one, other = [task for task in tasks_of(plan) if inputs_of(plan, task)]
        file = inputs_of(plan, one)[0]
        machine = Machine(2)
        machine.letter(plan, work_letter(other, (0, 1), plan=plan))
        machine.letter(plan, work_letter(one, (0, 3, 4), plan=plan))
        self.assertEqual(machine.letter(plan, ("lack", 2, file)), [("ask", 1, file, 2), ("ask", 3, file, 2)])
        self.assertEqual(machine.letter(plan, ("lack", 2, file)), [("ask", 4, file, 2)])

    def test_a_file_that_is_read_twice(self):
        task = [task for task in tasks_of(NEAR) if inputs_of(NEAR, task)][0]
        machine = Machine(2)
        told = machine.letter(NEAR, work_letter(task, (0, 1), (0, 1), (0, 1), plan=NEAR))
        self.assertEqual(told, [("ask", 0, file, 2) for file in inputs_of(NEAR, task)])
        files = all_files(NEAR, blocks_of(DATA, {"a": 2}))
        for file in inputs_of(NEAR, task):
            machine.letter(NEAR, ("give", 2, file, files[file]))
        machine.step(NEAR, None)
        self.assertEqual(machine.disk, {file: (len(files[file]), files[file]) for file in files_of(NEAR, task)})

    def test_letters_and_plans_are_not_changed(self):
        machine = Machine(2)
        plan = copy.deepcopy(PLAN)
        for letter in (work_letter(FOLD, (0, 1), (3, 4), (5,)), ("lack", 2, ONE), give(ONE), ("ask", 2, ONE, 1),
                       ("tell", 2, (1, 2)), work_letter(FOLD, (0, 1), (3, 4), (5,))):
            kept = copy.deepcopy(letter)
            machine.letter(PLAN, letter)
            self.assertEqual(letter, kept)
        machine.letter(PLAN, give(TWO))
        machine.letter(PLAN, give(THREE))
        machine.step(PLAN, None)
        self.assertEqual(machine.worked, 1)
        self.assertEqual(PLAN, plan)


class Steps(unittest.TestCase):
    def ready_machine(self, *others):
        machine = machine_with(SOURCE, *others)
        machine.letter(PLAN, work_letter(FOLD, (0,), (0,), (0,)))
        machine.letter(PLAN, work_letter(CUT, (0,)))
        return machine

    def test_nothing_is_done_without_a_ready_work(self):
        for torn in (None, 0, 1):
            machine = machine_with(TWO)
            machine.letter(PLAN, work_letter(FOLD, (0,), (0,), (0,)))
            before = seen(machine)
            machine.step(PLAN, torn)
            self.assertEqual(seen(machine), before)
            machine = Machine(1)
            machine.step(PLAN, torn)
            self.assertEqual(seen(machine), (True, {}, [], 0))

    def test_the_first_ready_work_is_worked(self):
        machine = self.ready_machine()
        disk = dict(machine.disk)
        machine.step(PLAN, None)
        disk.update({file: (len(FILES[file]), FILES[file]) for file in files_of(PLAN, CUT)})
        self.assertEqual(seen(machine)[:2], (True, disk))
        self.assertEqual([work.task for work in machine.works], [FOLD])
        self.assertEqual(machine.worked, 1)
        self.assertTrue(machine.has_task(PLAN, CUT))
        for file in (ONE, TWO, THREE):
            machine.letter(PLAN, give(file))
        machine.step(PLAN, None)
        self.assertEqual((machine.worked, machine.works), (2, []))
        self.assertEqual(machine.disk[files_of(PLAN, FOLD)[0]][1], FILES[files_of(PLAN, FOLD)[0]])

    def test_a_task_that_is_whole_by_now(self):
        for torn in (None, 0, 1):
            machine = self.ready_machine()
            for file in files_of(PLAN, CUT):
                machine.disk[file] = (0, ())
            before = dict(machine.disk)
            machine.step(PLAN, torn)
            self.assertEqual((machine.is_up, machine.disk, machine.worked), (True, before, 0))
            self.assertEqual([work.task for work in machine.works], [FOLD])

    def test_torn_at_each_file(self):
        first, second = files_of(PLAN, CUT)
        self.assertGreater(min(len(FILES[first]), len(FILES[second])), 0)
        for torn in range(5):
            machine = self.ready_machine()
            machine.step(PLAN, torn)
            half = len(FILES[(first, second)[torn % 2]]) // 2
            disk = {SOURCE: (len(FILES[SOURCE]), FILES[SOURCE])}
            if torn % 2:
                disk[first] = (len(FILES[first]), FILES[first])
                disk[second] = (len(FILES[second]), FILES[second][:half])
            else:
                disk[first] = (len(FILES[first]), FILES[first][:half])
            self.assertEqual(seen(machine), (False, disk, [], 0))
            self.assertFalse(machine.has_task(PLAN, CUT))

    def test_half_of_the_rows_rounded_down(self):
        plan = plan_of(job_of("union with itself"), {}, 1, True)
        task = [task for task in tasks_of(plan) if inputs_of(plan, task)][0]
        file = files_of(plan, task)[0]
        for many, half in ((0, 0), (1, 0), (2, 1), (3, 1), (7, 3)):
            rows = tuple([(number, "p") for number in range(many)])
            machine = Machine(2)
            machine.letter(plan, work_letter(task, (0,), plan=plan))
            machine.letter(plan, ("give", 2, inputs_of(plan, task)[0], rows))
            machine.step(plan, 0)
            told, written = machine.disk[file]
            self.assertEqual((machine.is_up, machine.worked, told, tuple(written)), (False, 0, many, rows[:half]))
            self.assertEqual(machine.whole(file), many == 0)

    def test_a_torn_file_is_written_anew(self):
        machine = self.ready_machine()
        machine.step(PLAN, 0)
        machine.rise()
        machine.letter(PLAN, work_letter(CUT, (0,)))
        machine.step(PLAN, None)
        self.assertTrue(machine.has_task(PLAN, CUT))
        self.assertEqual(machine.worked, 1)

    def test_letters_twice_and_in_any_order_leave_what_is_whole_right(self):
        for seed in range(300):
            rng = makers.source(seed)
            machine = machine_with(*rng.sample(sorted(FILES), 2))
            tasks = [task for task in tasks_of(PLAN) if inputs_of(PLAN, task)]
            for _ in range(60):
                task = rng.choice(tasks)
                places = [tuple(rng.sample(range(5), rng.randint(0, 3))) for _ in inputs_of(PLAN, task)]
                letter = rng.choice((work_letter(task, *places), give(rng.choice(sorted(FILES))),
                                     ("lack", 2, rng.choice(sorted(FILES))), ("tell", 2, (1, rng.randint(0, 3)))))
                for _ in range(rng.randint(1, 2)):
                    machine.letter(PLAN, letter)
                if rng.random() < 0.4:
                    machine.step(PLAN, rng.choice((None, None, 0, 1)))
                if not machine.is_up:
                    machine.rise()
            for file in machine.whole_files():
                self.assertEqual(tuple(machine.disk[file][1]), FILES[file])


if __name__ == "__main__":
    unittest.main()
