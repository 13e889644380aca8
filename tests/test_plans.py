"""[14] plans, [15] tasks."""

import copy
import unittest

from countedonce.blocks import block_files, block_of
from countedonce.errors import BadJob, BadThing
from countedonce.jobreader import read_job
from countedonce.plans import answer_files, files_of, inputs_of, needed_tasks, plan_of, tasks_of
from tests.plots import HEAD, job_of, plots, random_plots

STEPS = read_job(HEAD + "d = filter a where x\ne = join d, b by t\nf = fold e by t, x: count() as n\n"
                        "g = unlike f\nh = sort g by n up first 3\nc = union h, h\nk = map c to n\nanswer k")


def wrong(job, cuts, hows, pieces=2):
    try:
        plan_of(job, cuts, pieces, True, hows)
    except BadThing as error:
        return (error.thing,)
    return None


def every_plan():
    for _, _, _, plan, _ in plots():
        yield plan
    for _, _, _, plan, _ in random_plots(range(150)):
        yield plan


class Making(unittest.TestCase):
    def test_hows_of_other_steps(self):
        for name in ("a", "b", "d", "g", "h", "c", "k", "nobody", "", 5):
            for how in ((), (("p", 1),), "x"):
                self.assertEqual(wrong(STEPS, {}, {name: how}), (name,))
        self.assertEqual(wrong(STEPS, {}, {"e": (), "d": ()}), ("d",))
        self.assertEqual(wrong(STEPS, {}, {"d": (), "e": ()}), ("d",))
        self.assertIsNone(wrong(STEPS, {}, {"e": (), "f": ()}))
        self.assertIsNone(wrong(STEPS, {}, {"e": ()}))

    def test_hows_of_other_forms(self):
        for how in ((("p",),), [], None, True, "near", 0, ((),), {}):
            self.assertEqual(wrong(STEPS, {}, {"e": how}), ("e",))
        for how in (("p", 1), [("p", 1)], None, "p", 5, (["p", 1],), (("p", 1), 5), {}, (("p", 1), "pq"), True):
            self.assertEqual(wrong(STEPS, {}, {"f": how}), ("f",))
        for how in ((), ((),), (("p", 1),), (("p", 1), ("q", 2), ("p", 1)), (("x",), (), (1, 2, 3), ([], {}))):
            self.assertIsNone(wrong(STEPS, {}, {"f": how}))

    def test_of_several_wrong_hows_always_the_same_is_told(self):
        self.assertEqual(wrong(STEPS, {}, {"z": 1, "k": 2}), wrong(STEPS, {}, {"k": 2, "z": 1}))
        self.assertEqual(wrong(STEPS, {}, {"e": 1, "f": 2}), wrong(STEPS, {}, {"f": 2, "e": 1}))
        self.assertEqual(wrong(STEPS, {}, {"e": 1, "a": 2}), ("a",))
        self.assertEqual(wrong(STEPS, {"a": 201}, {"e": 1}), ("e",))

    def test_hows_that_are_told_of_steps_on_which_the_answer_does_not_hang(self):
        job = read_job(HEAD + "c = fold a: count() as n\nd = join a, b by t\ne = fold a: count() as n\nanswer c")
        self.assertIsNone(wrong(job, {}, {"d": (), "e": ((),)}))
        self.assertEqual(wrong(job, {}, {"d": 3}), ("d",))
        self.assertEqual(wrong(job, {}, {"e": 3}), ("e",))

    def test_at_most_200_blocks(self):
        job = read_job(HEAD + "answer a")
        self.assertIsNone(wrong(job, {"a": 200, "b": 200}, None))
        self.assertEqual(len(block_files(plan_of(job, {"a": 200}, 1, True))), 201)
        for cuts in ({"a": 201}, {"b": 201}, {"a": 1, "b": 10 ** 9}):
            self.assertIsNotNone(wrong(job, cuts, None))
        self.assertIsNone(wrong(read_job(HEAD + "c = unlike a\nanswer c"), {"c": 500, "nobody": 500}, None))

    def test_a_job_that_is_not_taken(self):
        with self.assertRaises(BadJob) as caught:
            plan_of(((("a", "filter", ("z",), ("number", 1)),), "a"), {}, 1, True, {"z": 1})
        self.assertEqual(caught.exception.name, "a")

    def test_cuts_and_hows_that_tell_nothing(self):
        for name in ("several", "fold", "join"):
            job = job_of(name)
            plan = plan_of(job, {}, 3, True)
            self.assertEqual(plan_of(job, {"a": 1, "b": 1, "z": 7}, 3, True, None), plan)
            self.assertEqual(plan_of(job, {}, 3, True, {}), plan)
        job = job_of("fold")
        plan = plan_of(job, {"a": 2}, 3, False)
        for hot in ((), ((),), (("p", "p"),), ((1,),), ((True,), ([],))):
            self.assertEqual(plan_of(job, {"a": 2}, 3, False, {"c": hot}), plan)
        self.assertNotEqual(plan_of(job, {"a": 2}, 3, False, {"c": (("p",),)}), plan)
        job = job_of("fold of texts")
        plan = plan_of(job, {}, 2, True)
        self.assertEqual(plan_of(job, {}, 2, True, {"c": (("p",), (True,), (2 ** 63,))}), plan)

    def test_equal_arguments_make_equal_plans_and_are_not_changed(self):
        job = job_of("several")
        cuts, hows = {"a": 2, "b": 3}, {"e": (), "f": (("q", 8), ("p", 7))}
        kept = copy.deepcopy((job, cuts, hows))
        plan = plan_of(job, cuts, 2, True, hows)
        self.assertEqual((job, cuts, hows), kept)
        self.assertEqual(plan_of(job, {"b": 3, "a": 2}, 2, True, {"f": (("q", 8), ("p", 7)), "e": ()}), plan)
        kept = copy.deepcopy(plan)
        for task in tasks_of(plan):
            files_of(plan, task).clear()
            inputs_of(plan, task).clear()
        for told in (tasks_of(plan), answer_files(plan), needed_tasks(plan), block_files(plan)):
            told.clear()
        self.assertEqual(plan, kept)


class Tasks(unittest.TestCase):
    def test_each_task_stands_once_behind_those_whose_files_it_reads(self):
        for plan in every_plan():
            tasks = tasks_of(plan)
            self.assertIsInstance(tasks, list)
            self.assertEqual(tasks, sorted(set(tasks)))
            known = set()
            for task in tasks:
                self.assertTrue(set(inputs_of(plan, task)) <= known)
                files = files_of(plan, task)
                self.assertTrue(files)
                for file in files:
                    self.assertEqual((len(file), file[:2]), (3, task))
                    self.assertNotIn(file, known)
                    known.add(file)
            self.assertTrue(set(answer_files(plan)) <= known)
            self.assertEqual(len(set(answer_files(plan))), len(answer_files(plan)))
            self.assertTrue(answer_files(plan))

    def test_tasks_and_files_are_tuples_of_ints_in_lists(self):
        for plan in every_plan():
            for told in [inputs_of(plan, task) + files_of(plan, task) for task in tasks_of(plan)]:
                self.assertIsInstance(told, list)
                for file in told:
                    self.assertEqual([type(part) for part in file], [int, int, int])
            self.assertIsInstance(answer_files(plan), list)

    def test_needed_are_those_on_which_the_answer_hangs(self):
        for plan in every_plan():
            writer = {file: task for task in tasks_of(plan) for file in files_of(plan, task)}
            found, open_ones = set(), [writer[file] for file in answer_files(plan)]
            while open_ones:
                task = open_ones.pop()
                if task not in found:
                    found.add(task)
                    open_ones.extend([writer[file] for file in inputs_of(plan, task)])
            self.assertEqual(needed_tasks(plan), sorted(found))

    def test_blocks_apart_all_tasks_are_needed(self):
        job = read_job(HEAD + "d = join a, b by t\ne = filter d where z\nc = unlike a\nf = fold c: count() as n\nanswer c")
        plan = plan_of(job, {"a": 2}, 2, True, {"d": ()})
        self.assertEqual([task for task in tasks_of(plan) if task not in needed_tasks(plan)],
                         [file[:2] for file in block_files(plan)[2:]])
        for plan in every_plan():
            left = [task for task in tasks_of(plan) if task not in needed_tasks(plan)]
            self.assertTrue(all([inputs_of(plan, task) == [] for task in left]))

    def test_a_fold_without_hot_keys_has_fewer_phases(self):
        job = job_of("fold")
        cold = plan_of(job, {"a": 2}, 3, True)
        hot = plan_of(job, {"a": 2}, 3, True, {"c": (("p",),)})
        self.assertEqual((len(needed_tasks(cold)), len(needed_tasks(hot))), (2 + 2 + 3, 2 + 2 + 3 + 3))

    def test_a_read_or_a_step_behind_the_answer_is_not_needed(self):
        job = read_job(HEAD + "d = join a, b by t\nanswer a")
        plan = plan_of(job, {"a": 3, "b": 2}, 2, True)
        self.assertEqual(answer_files(plan), block_files(plan)[:3])
        self.assertEqual([task + (0,) for task in needed_tasks(plan)], block_files(plan)[:3])

    def test_a_near_join_reads_whole_tables(self):
        job = job_of("join")
        near = plan_of(job, {"a": 3, "b": 2}, 4, True, {"c": ()})
        joins = [inputs_of(near, task) for task in needed_tasks(near) if inputs_of(near, task)]
        blocks = block_files(near)
        self.assertIn(sorted(joins), (sorted([[file] + blocks[3:] for file in blocks[:3]]),
                                      sorted([blocks[:3] + [file] for file in blocks[3:]])))

    def test_a_near_join_of_a_table_with_itself_reads_a_file_twice(self):
        for many in (1, 3):
            plan = plan_of(job_of("join with itself"), {"a": many}, 2, True, {"c": ()})
            for part, task in enumerate([task for task in needed_tasks(plan) if inputs_of(plan, task)]):
                files = inputs_of(plan, task)
                self.assertEqual(len(files), many + 1)
                self.assertEqual(sorted(set(files)), block_files(plan)[:many])
                self.assertEqual(files.count(block_files(plan)[part]), 2)

    def test_files_between_are_cut_into_as_many_pieces_as_told(self):
        for name in ("fold", "join", "unlike"):
            for many in (1, 2, 5):
                plan = plan_of(job_of(name), {"a": 2}, many, True)
                self.assertIn(many, [len(files_of(plan, task)) for task in tasks_of(plan)])


class Blocks(unittest.TestCase):
    def test_all_reads_have_blocks_in_their_order_whether_needed_or_not(self):
        job = read_job("read z(x int)\nd = fold z: count() as n\nread a(x int)\nread m(x int)\n"
                       "c = filter m where x\nanswer c")
        plan = plan_of(job, {"m": 2, "z": 3}, 2, True)
        self.assertEqual([block_of(plan, file) for file in block_files(plan)],
                         [("z", 0), ("z", 1), ("z", 2), ("a", 0), ("m", 0), ("m", 1)])
        self.assertEqual(block_files(plan), sorted(block_files(plan)))
        self.assertIsInstance(block_files(plan), list)

    def test_a_block_is_a_task_that_reads_nothing(self):
        for plan in every_plan():
            free = [files_of(plan, task) for task in tasks_of(plan) if not inputs_of(plan, task)]
            self.assertEqual(free, [[file] for file in block_files(plan)])
            for task in tasks_of(plan):
                for file in files_of(plan, task):
                    self.assertEqual(block_of(plan, file) is None, bool(inputs_of(plan, task)))
            pairs = [block_of(plan, file) for file in block_files(plan)]
            self.assertEqual(len(set(pairs)), len(pairs))

    def test_no_block(self):
        plan = plan_of(job_of("fold"), {"a": 2}, 2, True)
        for file in answer_files(plan) + [(99, 0, 0), (0, 2, 0), (0, 0, 1)]:
            self.assertIsNone(block_of(plan, file))


if __name__ == "__main__":
    unittest.main()
