"""[24] orders."""

import copy
import unittest

from countedonce.plans import answer_files, files_of, inputs_of, needed_tasks, plan_of, tasks_of
from countedonce.scheduling import lost_blocks, orders_for, places_told, ready_tasks, wanted_tasks
from tests import makers
from tests.plots import job_of, plots, random_plots

PLAN = plan_of(job_of("fold"), {"a": 3, "b": 2}, 2, True)
BLOCKS = [task for task in tasks_of(PLAN) if not inputs_of(PLAN, task)][:3]
CUTS = [task for task in tasks_of(PLAN) if len(files_of(PLAN, task)) == 2]
FOLDS = [task for task in tasks_of(PLAN) if len(inputs_of(PLAN, task)) == 3]
NEAR = plan_of(job_of("join with itself"), {"a": 2}, 2, True, {"c": ()})


def files(*tasks, plan=PLAN):
    return tuple(sorted([file for task in tasks for file in files_of(plan, task)]))


def places(*some, plan=PLAN):
    return {file: (0,) for file in files(*some, plan=plan)}


def told_of(*machines):
    """What machines told, a pair each of tasks whose files they have, and of those in work."""
    return {number: (files(*done), tuple(works)) for number, (done, works) in enumerate(machines)}


def stands(plan, task, where):
    return set(files_of(plan, task)) <= set(where)


def is_wanted(plan, task, where):
    """Whether a task is wanted, by the words of the document."""
    if stands(plan, task, where):
        return False
    mine = set(files_of(plan, task))
    return bool(mine & set(answer_files(plan))) or any(
        mine & set(inputs_of(plan, other)) and is_wanted(plan, other, where)
        for other in tasks_of(plan) if other > task)


def is_ready(plan, task, where):
    reads = inputs_of(plan, task)
    return bool(reads) and set(reads) <= set(where) and is_wanted(plan, task, where)


def orders_told(plan, told, ages, patience):
    """The orders by the words of the document."""
    where = places_told(told)
    orders = []
    for task in tasks_of(plan):
        if is_ready(plan, task, where):
            has_it = [machine for machine in sorted(told) if task in told[machine][1]]
            orders += [(task, machine, False) for machine in has_it]
            others = [machine for machine in sorted(told) if machine not in has_it]
            if others and (not has_it or ages.get(task, 0) > patience):
                def place(machine):
                    reads = [file for file in inputs_of(plan, task) if file in told[machine][0]]
                    new = [order for order in orders if order[1] == machine and order[2]]
                    return (-len(reads), len(told[machine][1]) + len(new), machine)
                orders.append((task, min(others, key=place), True))
    return orders


class Places(unittest.TestCase):
    def test_machines_ascend(self):
        one, two = files(CUTS[0])
        told = {5: ((one, two), ()), 1: ((two,), (CUTS[1],)), 3: ((), ()), 0: ((two, one), ())}
        kept = copy.deepcopy(told)
        self.assertEqual(places_told(told), {one: (0, 5), two: (0, 1, 5)})
        self.assertEqual(told, kept)
        self.assertEqual(places_told({}), {})
        self.assertEqual(places_told({2: ((), ())}), {})


class Wanted(unittest.TestCase):
    def test_nothing_told(self):
        self.assertEqual(wanted_tasks(PLAN, {}), needed_tasks(PLAN))
        self.assertEqual(ready_tasks(PLAN, {}), [])
        self.assertEqual(lost_blocks(PLAN, {}), BLOCKS)

    def test_all_told(self):
        every = places(*tasks_of(PLAN))
        self.assertEqual((wanted_tasks(PLAN, every), ready_tasks(PLAN, every), lost_blocks(PLAN, every)), ([], [], []))
        self.assertEqual(wanted_tasks(PLAN, places(*FOLDS)), [])
        self.assertEqual(lost_blocks(PLAN, places(*FOLDS)), [])

    def test_some_told(self):
        where = places(*BLOCKS)
        self.assertEqual(wanted_tasks(PLAN, where), CUTS + FOLDS)
        self.assertEqual(ready_tasks(PLAN, where), CUTS)
        self.assertEqual(lost_blocks(PLAN, where), [])
        where = places(BLOCKS[1], CUTS[0])
        self.assertEqual(wanted_tasks(PLAN, where), [BLOCKS[2]] + CUTS[1:] + FOLDS)
        self.assertEqual(ready_tasks(PLAN, where), [CUTS[1]])
        self.assertEqual(lost_blocks(PLAN, where), [BLOCKS[2]])
        where = places(FOLDS[0], *CUTS)
        self.assertEqual(wanted_tasks(PLAN, where), FOLDS[1:])
        self.assertEqual(ready_tasks(PLAN, where), FOLDS[1:])

    def test_a_task_of_which_a_file_lacks_is_wanted(self):
        where = places(*CUTS)
        del where[files(CUTS[1])[1]]
        self.assertEqual(wanted_tasks(PLAN, where), [BLOCKS[1], CUTS[1]] + FOLDS)
        self.assertEqual(ready_tasks(PLAN, where), [FOLDS[0]])
        self.assertEqual(lost_blocks(PLAN, where), [BLOCKS[1]])
        # Of the one that lacks, a file that stands is read by a wanted task; the one that lacks is not.
        where.update(places(FOLDS[1]))
        self.assertEqual(wanted_tasks(PLAN, where), [BLOCKS[1], CUTS[1], FOLDS[0]])
        where.update(places(FOLDS[0]))
        self.assertEqual(wanted_tasks(PLAN, where), [])

    def test_what_is_not_needed_is_not_wanted(self):
        plan = plan_of(job_of("read"), {"a": 2, "b": 2}, 2, True)
        self.assertEqual(lost_blocks(plan, {}), tasks_of(plan)[:2])
        self.assertEqual(lost_blocks(plan, places(tasks_of(plan)[0], plan=plan)), tasks_of(plan)[1:2])

    def test_as_the_document_says_of_random_places(self):
        for seed, _, _, plan, _ in random_plots(range(120), 5):
            rng = makers.source(seed)
            every = files(*tasks_of(plan), plan=plan)
            if len(every) < 60:
                where = {file: (1,) for file in every if rng.random() < rng.choice((0.2, 0.7, 0.9))}
                wanted = [task for task in tasks_of(plan) if is_wanted(plan, task, where)]
                self.assertEqual(wanted_tasks(plan, where), wanted)
                self.assertEqual(lost_blocks(plan, where), [task for task in wanted if not inputs_of(plan, task)])
                self.assertEqual(ready_tasks(plan, where), [task for task in wanted if is_ready(plan, task, where)])


class Orders(unittest.TestCase):
    def test_no_machine_told(self):
        self.assertEqual(orders_for(PLAN, {}, {}, 1), [])
        self.assertEqual(orders_for(PLAN, {}, {CUTS[0]: 9}, 1), [])

    def test_new_orders(self):
        told = told_of((BLOCKS, ()))
        self.assertEqual(orders_for(PLAN, told, {}, 1), [(task, 0, True) for task in CUTS])
        told = told_of(((), ()), (BLOCKS[:2], ()))
        self.assertEqual(orders_for(PLAN, told, {}, 1), [(CUTS[0], 1, True), (CUTS[1], 1, True)])
        self.assertEqual(orders_for(PLAN, told_of((CUTS + FOLDS, ())), {}, 1), [])
        self.assertEqual(orders_for(PLAN, told_of(((), ())), {}, 1), [])

    def test_the_machine_with_most_of_the_files(self):
        told = told_of((CUTS[:1], ()), (CUTS[1:], (CUTS[0], (9, 9), (9, 8))), (CUTS[:1], ()))
        self.assertEqual(orders_for(PLAN, told, {}, 1), [(task, 1, True) for task in FOLDS])

    def test_a_file_that_is_read_twice_counts_twice(self):
        one, other = [task for task in tasks_of(NEAR) if not inputs_of(NEAR, task)][:2]
        joins = [task for task in tasks_of(NEAR) if inputs_of(NEAR, task)]
        told = {0: (files(other, plan=NEAR), ((9, 9),)), 1: (files(one, plan=NEAR), ())}
        self.assertEqual(orders_for(NEAR, told, {}, 1), [(joins[0], 1, True), (joins[1], 0, True)])

    def test_then_with_the_fewest_works_new_orders_of_now_counted(self):
        told = told_of((BLOCKS, ((9, 1), (9, 2))), (BLOCKS, ()), (BLOCKS, ((9, 1),)))
        self.assertEqual(orders_for(PLAN, told, {}, 1), [(CUTS[0], 1, True), (CUTS[1], 1, True), (CUTS[2], 2, True)])
        told = told_of((BLOCKS, (CUTS[0],)), (BLOCKS, ()))
        self.assertEqual(orders_for(PLAN, told, {}, 1), [(CUTS[0], 0, False), (CUTS[1], 1, True), (CUTS[2], 0, True)])

    def test_then_the_first(self):
        told = {7: (files(*BLOCKS), ()), 3: (files(*BLOCKS), ()), 5: (files(*BLOCKS), ())}
        self.assertEqual(orders_for(PLAN, told, {}, 1), [(CUTS[0], 3, True), (CUTS[1], 5, True), (CUTS[2], 7, True)])

    def test_a_task_that_somebody_has_in_work(self):
        told = told_of((BLOCKS, (CUTS[1],)), ((), (CUTS[1], FOLDS[0])), (BLOCKS, ()))
        want = [(CUTS[0], 2, True), (CUTS[1], 0, False), (CUTS[1], 1, False), (CUTS[2], 0, True)]
        self.assertEqual(orders_for(PLAN, told, {}, 3), want)
        self.assertEqual(orders_for(PLAN, told, {CUTS[1]: 3, CUTS[0]: 9, FOLDS[0]: 9}, 3), want)
        more = [(CUTS[0], 2, True), (CUTS[1], 0, False), (CUTS[1], 1, False), (CUTS[1], 2, True), (CUTS[2], 0, True)]
        self.assertEqual(orders_for(PLAN, told, {CUTS[1]: 4}, 3), more)

    def test_all_told_machines_have_it(self):
        told = told_of((BLOCKS[:1], (CUTS[0],)), ((), (CUTS[0],)))
        self.assertEqual(orders_for(PLAN, told, {CUTS[0]: 99}, 1), [(CUTS[0], 0, False), (CUTS[0], 1, False)])

    def test_nothing_is_changed(self):
        told, ages = told_of((BLOCKS, (CUTS[1],)), (BLOCKS, ())), {CUTS[1]: 4}
        kept = copy.deepcopy((told, ages))
        first = orders_for(PLAN, told, ages, 1)
        self.assertEqual(orders_for(PLAN, told, ages, 1), first)
        self.assertEqual((told, ages), kept)

    def test_as_the_document_says_of_random_machines(self):
        some = 0
        plans = [plan for _, _, _, plan, _ in plots(({"a": 2, "b": 2},), (2,))]
        for seed in range(1500):
            rng = makers.source(seed)
            plan = rng.choice(plans)
            every, tasks = files(*tasks_of(plan), plan=plan), tasks_of(plan)
            told = {}
            for machine in rng.sample(range(6), rng.randint(1, 5)):
                likely = rng.choice((0.1, 0.4, 0.6))
                told[machine] = (tuple([file for file in every if rng.random() < likely]),
                                 tuple([task for task in tasks if rng.random() < 0.15]))
            ages = {task: rng.randint(0, 4) for task in tasks if rng.random() < 0.7}
            patience = rng.randint(1, 3)
            want = orders_told(plan, told, ages, patience)
            some += len(want) > 1
            self.assertEqual(orders_for(plan, told, ages, patience), want)
        self.assertGreater(some, 200)


if __name__ == "__main__":
    unittest.main()
