"""[28] again."""

import copy
import unittest

from countedonce.again import answer_again, changed_blocks, hanging_tasks
from countedonce.blocks import block_files, block_of, blocks_of
from countedonce.errors import BadThing
from countedonce.jobchecker import columns_of
from countedonce.jobreader import read_job
from countedonce.plans import inputs_of, needed_tasks, plan_of, tasks_of
from countedonce.tasks import all_files, plain_answer
from tests import clerk, makers
from tests.plots import DATA, answer, job_of, plots, random_plots

JOB = job_of("several")
CUTS = {"a": 3, "b": 2}
PLAN = plan_of(JOB, CUTS, 2, True)
BLOCKS = blocks_of(DATA, CUTS)


def columns_in(job):
    return {name: columns for name, what, _, columns in job[0] if what == "read"}


def changed_rows(rng, columns, rows):
    """Rows of a block, changed a little or much, or in another order."""
    way = rng.randrange(4)
    more = makers.rows(rng, columns, 3)
    if way == 0:
        return tuple(more)
    if way == 1:
        return tuple(rows) + tuple(more)
    if way == 2:
        return tuple(rows[1:])
    return tuple(rng.sample(list(rows), len(rows)))


def drawn_again(rng, job, blocks):
    """Blocks some of which are changed, and the pairs of those that are."""
    new, pairs = {}, []
    likely = rng.choice((0, 0.2, 0.5, 1))
    for name, columns in columns_in(job).items():
        new[name] = []
        for number, rows in enumerate(blocks[name]):
            if rng.random() < likely:
                rows = changed_rows(rng, columns, rows)
            new[name].append(rows)
            if tuple(rows) != tuple(blocks[name][number]):
                pairs.append((name, number))
    return new, pairs


def data_of(blocks):
    return {name: [row for rows in its for row in rows] for name, its in blocks.items()}


def hangs(plan, task, changed):
    """Whether a task is one of some, or hangs on one, by the words of the document."""
    return task in changed or any(hangs(plan, file[:2], changed) for file in set(inputs_of(plan, task)))


def wrong(old, new, plan=PLAN):
    """What changed_blocks and answer_again tell is wrong."""
    told = []
    for ask in (lambda: changed_blocks(plan, old, new), lambda: answer_again(plan, all_files(PLAN, BLOCKS), old, new)):
        try:
            ask()
            told.append(None)
        except BadThing as error:
            told.append(error.thing)
    return told


class Changed(unittest.TestCase):
    def test_by_hand(self):
        a, b = BLOCKS["a"], BLOCKS["b"]
        tasks = {block_of(PLAN, file): file[:2] for file in block_files(PLAN)}
        self.assertEqual(changed_blocks(PLAN, BLOCKS, BLOCKS), [])
        self.assertEqual(changed_blocks(PLAN, BLOCKS, {"b": tuple(b), "a": [list(rows) for rows in a]}), [])
        self.assertEqual(changed_blocks(PLAN, BLOCKS, {"a": [a[0], (), a[2]], "b": b}), [tasks[("a", 1)]])
        self.assertEqual(changed_blocks(PLAN, BLOCKS, {"a": a, "b": [b[0], b[1] + b[1][:1]]}), [tasks[("b", 1)]])
        self.assertEqual(changed_blocks(PLAN, BLOCKS, {"a": [a[0][::-1], a[1], a[2]], "b": b}), [tasks[("a", 0)]])
        told = changed_blocks(PLAN, BLOCKS, {"b": b[::-1], "a": [a[0], a[2], a[1]]})
        self.assertEqual(told, sorted([tasks[("a", 1)], tasks[("a", 2)], tasks[("b", 0)], tasks[("b", 1)]]))
        self.assertIsInstance(told, list)

    def test_drawn(self):
        for seed, job, _, plan, blocks in random_plots(range(300)):
            new, pairs = drawn_again(makers.source(seed), job, blocks)
            tasks = sorted([file[:2] for file in block_files(plan) if block_of(plan, file) in pairs])
            self.assertEqual(changed_blocks(plan, blocks, new), tasks)

    def test_another_number_of_blocks(self):
        a, b = BLOCKS["a"], BLOCKS["b"]
        self.assertEqual(wrong(BLOCKS, {"a": a + [()], "b": b}), ["a", "a"])
        self.assertEqual(wrong(BLOCKS, {"a": a[:2], "b": b}), ["a", "a"])
        self.assertEqual(wrong(BLOCKS, {"a": a, "b": []}), ["b", "b"])
        self.assertEqual(wrong(BLOCKS, {"b": b}), ["a", "a"])
        self.assertEqual(wrong(BLOCKS, {"a": a}), ["b", "b"])
        self.assertEqual(wrong({"a": a}, BLOCKS), ["b", "b"])
        self.assertEqual(wrong(BLOCKS, {}), ["a", "a"])
        self.assertEqual(wrong(BLOCKS, {"b": b[:1], "a": a[:1]}), ["a", "a"])
        self.assertEqual(wrong(BLOCKS, {"b": b, "a": a}), [None, None])

    def test_another_number_of_blocks_of_a_table_that_the_plan_does_not_read(self):
        for many, other in ((0, 1), (1, 2), (3, 1)):
            old, new = {**BLOCKS, "z": [()] * many}, {**BLOCKS, "z": [()] * other, "y": [()]}
            self.assertEqual(wrong(old, new), ["y", "y"])
            del new["y"]
            self.assertEqual(wrong(old, new), ["z", "z"])
            new["b"] = []
            self.assertEqual(wrong(old, new), ["b", "b"])
        self.assertEqual(wrong({**BLOCKS, "z": [()]}, {**BLOCKS, "z": [((1,),)]}), [None, None])

    def test_a_table_that_lacks_has_no_rows(self):
        plan = plan_of(job_of("fold"), {"a": 3}, 2, True)
        old = {"a": BLOCKS["a"]}
        new = {"a": BLOCKS["a"][::-1]}
        self.assertEqual(changed_blocks(plan, old, old), [])
        self.assertEqual(answer_again(plan, all_files(plan, old), old, new)[0], plain_answer(plan, new))


class Hanging(unittest.TestCase):
    def test_by_the_words(self):
        for seed, _, _, plan, _ in random_plots(range(200), 5):
            rng = makers.source(seed)
            tasks = tasks_of(plan)
            if len(tasks) < 60:
                some = rng.sample(tasks, rng.randint(0, min(4, len(tasks))))
                want = [task for task in tasks if hangs(plan, task, some)]
                self.assertEqual(hanging_tasks(plan, some), want)
                self.assertEqual(hanging_tasks(plan, tuple(some + some)), want)

    def test_none_and_all(self):
        for _, _, _, plan, _ in plots(({"a": 2, "b": 3},), (2,)):
            self.assertEqual(hanging_tasks(plan, []), [])
            self.assertEqual(hanging_tasks(plan, [file[:2] for file in block_files(plan)]), tasks_of(plan))
            self.assertEqual(hanging_tasks(plan, [tasks_of(plan)[-1]]), [tasks_of(plan)[-1]])

    def test_ascending(self):
        told = hanging_tasks(PLAN, [tasks_of(PLAN)[4], tasks_of(PLAN)[0]])
        self.assertEqual(told, sorted(told))
        self.assertIsInstance(told, list)


class Again(unittest.TestCase):
    def worked_at_most(self, plan, old, new):
        changed = changed_blocks(plan, old, new)
        return len([task for task in hanging_tasks(plan, changed) if inputs_of(plan, task) and task in needed_tasks(plan)])

    def test_no_change(self):
        for _, job, data, plan, blocks in plots():
            files = all_files(plan, blocks)
            self.assertEqual(answer_again(plan, files, blocks, blocks), (answer(job, data), 0))
            as_lists = {name: [list(rows) for rows in its] for name, its in blocks.items()}
            self.assertEqual(answer_again(plan, files, blocks, as_lists), (answer(job, data), 0))

    def test_each_block_changed_by_itself(self):
        for name, job, data, plan, blocks in plots(({"a": 2, "b": 3},), (1, 3)):
            files = all_files(plan, blocks)
            for table in ("a", "b"):
                for number in range(len(blocks[table])):
                    new = {key: list(its) for key, its in blocks.items()}
                    new[table][number] = ((7, "z"), (8, "p")) if table == "a" else (("z", 7), ("q", 0), ("p", 1))
                    told, worked = answer_again(plan, files, blocks, new)
                    self.assertEqual(told, answer(job, data_of(new)), name)
                    self.assertEqual(told, plain_answer(plan, new))
                    self.assertLessEqual(worked, self.worked_at_most(plan, blocks, new))

    def test_rows_in_another_order(self):
        for name, job, data, plan, blocks in plots(({"a": 2, "b": 3},), (2,)):
            new = {key: [rows[::-1] for rows in its] for key, its in blocks.items()}
            told, worked = answer_again(plan, all_files(plan, blocks), blocks, new)
            self.assertEqual(told, answer(job, data), name)
            self.assertLessEqual(worked, self.worked_at_most(plan, blocks, new))

    def test_what_hangs_on_no_changed_block_is_not_worked(self):
        a, b = BLOCKS["a"], BLOCKS["b"]
        files = all_files(PLAN, BLOCKS)
        all_tasks = len([task for task in needed_tasks(PLAN) if inputs_of(PLAN, task)])
        told, worked = answer_again(PLAN, files, BLOCKS, {"a": a, "b": [b[0], b[1] + (("p", 100),)]})
        self.assertEqual(told, answer(JOB, {"a": DATA["a"], "b": DATA["b"] + [("p", 100)]}))
        self.assertTrue(0 < worked < all_tasks)
        # A block on which the answer does not hang.
        plan = plan_of(job_of("fold"), CUTS, 2, True)
        told, worked = answer_again(plan, all_files(plan, BLOCKS), BLOCKS, {"a": a, "b": [b[0], ()]})
        self.assertEqual((told, worked), (answer(job_of("fold"), DATA), 0))
        # An answer that is made of blocks alone: blocks don't count.
        plan = plan_of(job_of("read"), CUTS, 2, True)
        told, worked = answer_again(plan, all_files(plan, BLOCKS), BLOCKS, {"a": [a[1], a[1], ()], "b": b})
        self.assertEqual((told, worked), (sorted(a[1] + a[1]), 0))

    def test_what_reads_the_same_rows_as_before_is_not_worked(self):
        job = read_job("read a(x int, t text)\nc = filter a where x > 2\nd = fold c: sum(x) as s\ne = unlike d\nanswer e")
        plan = plan_of(job, {"a": 2}, 2, True)
        old = {"a": [((1, "p"), (5, "q")), ((2, "p"),)]}
        new = {"a": [((5, "q"),), ((2, "p"), (1, "q"))]}
        self.assertEqual(answer_again(plan, all_files(plan, old), old, new), ([(5,)], 2))
        new = {"a": [((5, "q"),), ((3, "p"),)]}
        told, worked = answer_again(plan, all_files(plan, old), old, new)
        self.assertEqual(told, [(8,)])
        self.assertGreater(worked, 2)
        as_lists = {file: list(rows) for file, rows in all_files(plan, old).items()}
        self.assertEqual(answer_again(plan, as_lists, old, {"a": [old["a"][0], ()]}), ([(5,)], 1))

    def test_drawn(self):
        some = 0
        for seed, job, _, plan, blocks in random_plots(range(900)):
            rng = makers.source(seed)
            new, _ = drawn_again(rng, job, blocks)
            columns = columns_of(job)
            if max(len(rows) for rows in clerk.all_rows(job, data_of(new), columns).values()) <= 300:
                told, worked = answer_again(plan, all_files(plan, blocks), blocks, new)
                self.assertEqual(told, answer(job, data_of(new)), seed)
                self.assertIsInstance(told, list)
                self.assertTrue(0 <= worked <= self.worked_at_most(plan, blocks, new))
                some += worked > 0
        self.assertGreater(some, 200)

    def test_nothing_is_changed(self):
        for seed, job, _, plan, blocks in random_plots(range(60)):
            new, _ = drawn_again(makers.source(seed), job, blocks)
            files = {file: list(rows) for file, rows in all_files(plan, blocks).items()}
            kept = copy.deepcopy((plan, files, blocks, new))
            first = answer_again(plan, files, blocks, new)
            self.assertEqual(answer_again(plan, files, blocks, new), first)
            hanging_tasks(plan, changed_blocks(plan, blocks, new))
            self.assertEqual((plan, files, blocks, new), kept)


if __name__ == "__main__":
    unittest.main()
