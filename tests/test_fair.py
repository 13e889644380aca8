"""[27] the fair end, [34] why it ends."""

import copy
import unittest

from countedonce.blocks import block_files, blocks_of
from countedonce.costs import rounds_in_peace, works_in_peace
from countedonce.fair import (
    fair_round, finish, lasting_blocks, missing_blocks, most_rounds, most_worked, wrong_files)
from countedonce.plans import answer_files, files_of, inputs_of, needed_tasks, plan_of, tasks_of
from countedonce.tasks import all_files
from countedonce.worlds import World, played
from tests import makers
from tests.plots import DATA, answer, job_of, plots, random_plots
from tests.tales import events, seen, world_of, worlds

JOB = job_of("several")
CUTS = {"a": 3, "b": 2}
PLAN = plan_of(JOB, CUTS, 2, True)
BLOCKS = blocks_of(DATA, CUTS)
FILES = all_files(PLAN, BLOCKS)
TASKS = [task for task in needed_tasks(PLAN) if inputs_of(PLAN, task)]


def fresh(machines=3, copies=2, patience=1, plan=PLAN, blocks=BLOCKS):
    return World(plan, blocks, machines, copies, patience)


def put(world, number, *files):
    """Let files lie whole on a machine's disk."""
    for file in files:
        world.machines[number].disk[file] = (len(FILES[file]), FILES[file])


def all_burnt(world):
    return played(world, [("burn", number, 0) for number in range(len(world.machines))])


def round_by_the_words(world):
    """A fair round, told with nothing of the module that is tested."""
    for machine in world.machines:
        if not machine.is_up:
            machine.rise()
    if not world.middle.is_up:
        world.middle.begin(False)
    while world.letters:
        letter = world.letters.pop(0)
        if letter[1] == -1:
            world.middle.letter(letter)
        else:
            world.letters += world.machines[letter[1]].letter(world.plan, letter)
    for machine in world.machines:
        while machine.ready():
            machine.step(world.plan, None)
    had = world.middle.answer
    world.letters += world.middle.think()
    if had is None and world.middle.answer is not None:
        world.answers.append(tuple(world.middle.answer))


def is_wanted(plan, task, where):
    """Whether a task is wanted, by the words of the document, where some files stand."""
    mine = files_of(plan, task)
    if set(mine) <= where:
        return False
    return bool(set(mine) & set(answer_files(plan))) or any(
        set(mine) & set(inputs_of(plan, other)) and is_wanted(plan, other, where)
        for other in tasks_of(plan) if other > task)


def missing_by_the_words(world):
    where = {file for machine in world.machines for file in machine.whole_files()}
    return tuple([task for task in tasks_of(world.plan) if not inputs_of(world.plan, task)
                  and files_of(world.plan, task)[0] not in where and is_wanted(world.plan, task, where)])


class Rounds(unittest.TestCase):
    def test_the_first_rounds_of_a_fresh_world(self):
        world = fresh()
        fair_round(world)
        self.assertEqual((world.middle.journal, world.middle.turn), ([True], (1, 1)))
        self.assertEqual(world.letters, [("tell", number, (1, 1)) for number in range(3)])
        fair_round(world)
        self.assertEqual(world.worked(), 0)
        orders = [letter for letter in world.letters if letter[0] == "work"]
        self.assertTrue(orders)
        fair_round(world)
        self.assertEqual(world.worked(), len(orders))
        self.assertEqual([letter[3] for letter in orders],
                         [task for task in TASKS if all(file in block_files(PLAN) for file in inputs_of(PLAN, task))])

    def test_all_letters_come_the_first_one_first(self):
        world = fresh(4)
        world.event("begin", 0, 0)
        heard = []
        for machine in world.machines:
            def letter(plan, told, number=machine.number):
                heard.append((number, told))
                sent = {"one": [("two", 1), ("three", 2)], "two": [("four", 0)], "five": [("six", 3)]}
                return sent.get(told[0], [])
            machine.letter = letter
        world.letters = [("one", 3), ("five", 0), ("seven", 1)]
        fair_round(world)
        self.assertEqual([told for _, told in heard], [("one", 3), ("five", 0), ("seven", 1), ("two", 1), ("three", 2),
                                                       ("six", 3), ("four", 0)])
        self.assertTrue(all(number == told[1] for number, told in heard))

    def test_machines_rise_and_the_middle_one_begins_ahead_of_the_letters(self):
        world = played(fresh(), [("begin", 0, 0), ("think", 0, 0), ("fall", 1, 0), ("burn", 2, 0), ("stop", 0, 0)])
        fair_round(world)
        self.assertTrue(all(machine.is_up for machine in world.machines))
        # What the machines told was of an old turn, though the middle one heard it.
        self.assertEqual((world.middle.journal, world.middle.turn), ([True, True], (2, 1)))
        self.assertEqual(world.letters, [("tell", number, (2, 1)) for number in range(3)])
        world = fresh()
        files = answer_files(PLAN)
        world.letters = [("give", -1, file, FILES[file]) for file in files]
        fair_round(world)
        self.assertEqual(world.answers, [tuple(answer(JOB, DATA))])
        self.assertEqual(world.letters, [])

    def test_the_middle_one_that_is_up_does_not_begin(self):
        world = played(fresh(), [("begin", 0, 0)])
        fair_round(world)
        self.assertEqual(world.middle.journal, [True])

    def test_each_machine_steps_as_long_as_it_has_a_ready_work(self):
        world = fresh(1, 1)
        orders = [task for task in TASKS if len(inputs_of(PLAN, task)) == 1]
        for task in orders:
            put(world, 0, *inputs_of(PLAN, task))
            world.letters.append(("work", 0, (1, 1), task, tuple([(file, (0,)) for file in inputs_of(PLAN, task)])))
        open_ones = [task for task in orders if not world.machines[0].has_task(PLAN, task)]
        self.assertGreater(len(open_ones), 2)
        fair_round(world)
        self.assertEqual((world.worked(), world.machines[0].works), (len(open_ones), []))

    def test_as_the_words_say(self):
        for _, _, _, _, world in worlds(range(250)):
            other = copy.deepcopy(world)
            for _ in range(4):
                fair_round(world)
                round_by_the_words(other)
                self.assertEqual(seen(world), seen(other))

    def test_no_machine_is_down_and_no_work_is_ready_behind_it(self):
        for _, _, _, _, world in worlds(range(80)):
            fair_round(world)
            self.assertTrue(world.middle.is_up and all(machine.is_up for machine in world.machines))
            self.assertEqual([machine.ready() for machine in world.machines], [None] * len(world.machines))


def finish_by_the_words(world):
    """How many fair rounds there are, told with nothing of the module that is tested."""
    rounds = 0
    while world.middle.answer is None:
        worked = sum(machine.worked for machine in world.machines)
        round_by_the_words(world)
        rounds += 1
        if sum(machine.worked for machine in world.machines) == worked and rounds > 1 and world.middle.lost:
            break
    return rounds


class Finish(unittest.TestCase):
    def test_by_the_words_behind_histories(self):
        lost = 0
        for _, _, _, _, world in worlds(range(400)):
            other = copy.deepcopy(world)
            self.assertEqual(finish(world), finish_by_the_words(other))
            self.assertEqual(seen(world), seen(other))
            lost += world.middle.answer is None
        self.assertGreater(lost, 10)

    def test_one_lost_block(self):
        plan = plan_of(job_of("fold"), {}, 2, True)
        world = all_burnt(World(plan, blocks_of(DATA, {}), 2, 2, 1))
        self.assertEqual((finish(world), world.middle.lost), (2, (block_files(plan)[0][:2],)))

    def test_at_most_most_rounds(self):
        # Without thoughts there would be no end.
        world = fresh()
        world.middle.think = lambda: []
        self.assertEqual(finish(world), most_rounds(PLAN))
        self.assertEqual((world.middle.answer, world.middle.journal), (None, [True]))

    def test_how_many_rounds(self):
        world = fresh()
        other = fresh()
        rounds = finish(world)
        many = 0
        while other.middle.answer is None:
            fair_round(other)
            many += 1
        self.assertEqual((rounds, seen(world)), (many, seen(other)))
        before = seen(world)
        self.assertEqual(finish(world), 0)
        self.assertEqual(seen(world), before)

    def test_none_where_there_is_an_answer_already_though_all_burnt(self):
        world = fresh()
        finish(world)
        all_burnt(world)
        before = seen(world)
        self.assertEqual(finish(world), 0)
        self.assertEqual(seen(world), before)
        # The middle one has no answer any more when it fell.
        world.event("stop", 0, 0)
        self.assertEqual(finish(world), 2)
        self.assertEqual((world.middle.answer, world.middle.lost), (None, missing_blocks(world)))

    def test_lost_blocks(self):
        for copies, burnt in ((1, (0,)), (1, (0, 1, 2)), (2, (0, 1)), (3, (0, 1, 2))):
            world = played(fresh(3, copies), [("burn", number, 0) for number in burnt])
            missing = missing_blocks(world)
            self.assertNotEqual(missing, ())
            rounds = finish(world)
            self.assertTrue(2 <= rounds <= most_rounds(PLAN))
            self.assertIsNone(world.middle.answer)
            self.assertEqual((world.middle.lost, missing_blocks(world), world.answers), (missing, missing, []))

    def test_blocks_are_not_taken_for_lost_behind_the_first_round(self):
        # Of what all machines told before they burnt, nothing is wanted; of what was told before that, nothing stands.
        world = played(fresh(3, 1), [("begin", 0, 0), ("think", 0, 0)])
        for machine in world.machines:
            disk, machine.disk = machine.disk, {}
            world.event("come", 0, 0)
            machine.disk = disk
        played(world, [("come", 0, 0)] * 3)
        self.assertEqual(len(world.middle.told), 3)
        other = copy.deepcopy(world)
        fair_round(other)
        self.assertNotEqual(other.middle.lost, ())
        self.assertEqual(other.worked(), 0)
        self.assertEqual(missing_blocks(world), ())
        self.assertGreater(finish(world), 1)
        self.assertEqual(world.middle.answer, answer(JOB, DATA))

    def test_blocks_are_not_taken_for_lost_behind_a_round_in_which_something_was_worked(self):
        plan = plan_of(job_of("join"), {}, 1, True, {"c": ()})
        blocks = blocks_of(DATA, {})
        (task,) = [task for task in tasks_of(plan) if inputs_of(plan, task)]
        one, other = inputs_of(plan, task)
        world = played(World(plan, blocks, 3, 1, 1), [("begin", 0, 0), ("think", 0, 0)])
        home, further = [machine.number for file in (one, other) for machine in world.machines if machine.whole(file)]
        world.letters.insert(0, ("work", 2, (1, 1), task, ((one, (home,)), (other, ()))))
        while world.letters:
            world.event("come", 0, 0)
        # The work has the block that burns now, and all machines told of what they had ahead of this.
        self.assertEqual([list(work.has) for work in world.machines[2].works], [[one]])
        self.assertEqual((len(world.middle.told), further != home), (3, True))
        world.event("burn", home, 0)
        self.assertEqual(missing_blocks(world), (one[:2],))
        other_world = copy.deepcopy(world)
        fair_round(other_world)
        self.assertEqual(other_world.worked(), 0)
        fair_round(other_world)
        self.assertEqual((other_world.worked(), other_world.middle.lost), (1, (one[:2],)))
        self.assertEqual(missing_blocks(other_world), ())
        self.assertGreater(finish(world), 2)
        self.assertEqual(world.middle.answer, answer(job_of("join"), DATA))

    def test_most_rounds(self):
        for _, _, _, plan, _ in plots(({}, {"a": 2, "b": 3}), (2,)):
            phases = len({task[0] for task in tasks_of(plan)})
            needed = len({task[0] for task in needed_tasks(plan)})
            self.assertTrue(2 * needed + 6 <= most_rounds(plan) <= 2 * phases + 6)

    def test_in_peace(self):
        for name, job, data, plan, blocks in plots(({}, {"a": 2, "b": 3})):
            for machines, copies, patience in ((1, 1, 1), (3, 2, 1), (5, 1, 2), (12, 12, 3)):
                world = World(plan, blocks, machines, copies, patience)
                rounds = finish(world)
                self.assertLessEqual(rounds, rounds_in_peace(plan), name)
                self.assertLessEqual(rounds, most_rounds(plan), name)
                self.assertEqual(world.worked(), works_in_peace(plan), name)
                self.assertEqual((world.middle.answer, world.answers),
                                 (answer(job, data), [tuple(answer(job, data))]))

    def test_in_peace_of_random_jobs(self):
        for seed, job, data, plan, blocks in random_plots(range(400)):
            world = world_of(makers.source(seed), plan, blocks)
            self.assertLessEqual(finish(world), rounds_in_peace(plan))
            self.assertEqual(world.worked(), works_in_peace(plan))
            self.assertEqual(world.middle.answer, answer(job, data))

    def test_behind_histories(self):
        ends, lost, more = 0, 0, 0
        for seed, rng, job, data, world in worlds(range(1200)):
            missing, most, worked = missing_blocks(world), most_worked(world), world.worked()
            rounds = finish(world)
            self.assertLessEqual(rounds, most_rounds(world.plan))
            self.assertLessEqual(world.worked() - worked, most)
            if missing == ():
                self.assertIsNotNone(world.middle.answer)
            if world.middle.answer is None:
                self.assertNotEqual(world.middle.lost, ())
                self.assertEqual(world.middle.lost, missing_blocks(world))
                lost += 1
            else:
                self.assertEqual(world.middle.answer, answer(job, data))
                ends += rounds > 0
            self.assertTrue(all(list(told) == answer(job, data) for told in world.answers))
            self.assertEqual(wrong_files(world), [])
            # What has an end may go on, fall, and have an end once more.
            played(world, events(rng, 100))
            missing, most, worked = missing_blocks(world), most_worked(world), world.worked()
            self.assertLessEqual(finish(world), most_rounds(world.plan))
            self.assertLessEqual(world.worked() - worked, most)
            more += missing == ()
            self.assertTrue(missing or world.middle.answer == answer(job, data))
        self.assertGreater(min(ends, lost, more), 50)

    def test_every_kind_of_step_behind_histories(self):
        for number, (_, job, data, plan, blocks) in enumerate(plots(({}, {"a": 2, "b": 3}), (1, 3))):
            rng = makers.source(number)
            world = played(world_of(rng, plan, blocks), events(rng, 300))
            missing = missing_blocks(world)
            self.assertLessEqual(finish(world), most_rounds(plan))
            self.assertTrue(missing or world.middle.answer == answer(job, data))


class Worked(unittest.TestCase):
    def test_fresh(self):
        self.assertEqual(most_worked(fresh()), 2 * len(TASKS))
        self.assertEqual(most_worked(played(fresh(), [("begin", 0, 0), ("think", 0, 0)])), 2 * len(TASKS))
        plan = plan_of(job_of("read"), {"a": 2}, 1, True)
        self.assertEqual(most_worked(World(plan, blocks_of(DATA, {"a": 2}), 1, 1, 1)), 0)

    def test_one_for_each_work_that_machines_hold(self):
        world = fresh()
        for number, task in ((0, TASKS[0]), (2, TASKS[1]), (2, TASKS[0])):
            places = tuple([(file, ()) for file in inputs_of(PLAN, task)])
            world.machines[number].letter(PLAN, ("work", number, (1, 1), task, places))
        self.assertEqual(most_worked(world), 2 * len(TASKS) + 3)
        world.event("fall", 2, 0)
        self.assertEqual(most_worked(world), 2 * len(TASKS) + 1)

    def test_one_for_each_letter_that_orders_old_and_doubled_ones_too(self):
        world = fresh()
        order = ("work", 1, (7, 3), TASKS[0], tuple([(file, ()) for file in inputs_of(PLAN, TASKS[0])]))
        world.letters = [order, ("tell", 1, (1, 1)), order, ("ask", 0, (0, 0, 0), 1), ("lack", 0, (0, 0, 0)),
                         ("give", 0, (0, 0, 0), ()), order]
        self.assertEqual(most_worked(world), 2 * len(TASKS) + 3)
        world.event("double", 0, 0)
        self.assertEqual(most_worked(world), 2 * len(TASKS) + 4)

    def test_one_for_each_work_that_the_middle_one_was_told_of(self):
        world = played(fresh(), [("begin", 0, 0), ("think", 0, 0)])
        told = ("told", -1, (1, 1), 2, ((0, 0, 0),), (TASKS[0], TASKS[1]))
        old = ("told", -1, (0, 9), 2, ((0, 0, 0),), (TASKS[0], TASKS[1], TASKS[2]))
        world.letters = [told]
        self.assertEqual(most_worked(world), 2 * len(TASKS) + 2)
        world.letters = [told, old, told]
        self.assertEqual(most_worked(world), 2 * len(TASKS) + 7)
        world.event("come", 0, 0)
        self.assertEqual(most_worked(world), 2 * len(TASKS) + 7)
        played(world, [("come", 0, 0)] * 2)
        self.assertEqual(most_worked(world), 2 * len(TASKS) + 2)
        world.event("stop", 0, 0)
        self.assertEqual(most_worked(world), 2 * len(TASKS))

    def test_old_orders_work_more_than_in_peace(self):
        more = 0
        for seed in range(60):
            rng = makers.source(seed)
            world = fresh(4, 4)
            for _ in range(30):
                task = rng.choice(TASKS)
                places = tuple([(file, (0, 1, 2, 3)) for file in inputs_of(PLAN, task)])
                world.letters.append(("work", rng.randrange(4), (0, 0), task, places))
            most = most_worked(world)
            self.assertEqual(most, 2 * len(TASKS) + 30)
            finish(world)
            self.assertLessEqual(world.worked(), most)
            self.assertEqual(world.middle.answer, answer(JOB, DATA))
            more += world.worked() > len(TASKS)
        self.assertGreater(more, 20)

    def test_it_is_told_without_changing_the_world(self):
        for _, _, _, _, world in worlds(range(40)):
            before = seen(world)
            for ask in (most_worked, missing_blocks, wrong_files, lasting_blocks):
                self.assertEqual(ask(world), ask(world))
            most_rounds(world.plan)
            self.assertEqual(seen(world), before)


class Blocks(unittest.TestCase):
    def test_none_is_missing(self):
        self.assertEqual(missing_blocks(fresh()), ())
        self.assertEqual(missing_blocks(played(fresh(3, 2), [("burn", 1, 0)])), ())

    def test_burnt_on_all_machines(self):
        blocks = [file[:2] for file in block_files(PLAN)]
        self.assertEqual(missing_blocks(all_burnt(fresh())), tuple(blocks))
        world = played(fresh(3, 1), [("burn", 1, 0)])
        self.assertEqual(missing_blocks(world), tuple(blocks[1::3]))
        world.event("rise", 1, 0)
        self.assertEqual(missing_blocks(world), tuple(blocks[1::3]))
        self.assertEqual(lasting_blocks(world), [file for file in block_files(PLAN) if file[:2] not in blocks[1::3]])

    def test_on_machines_that_are_down(self):
        world = played(fresh(3, 1), [("fall", number, 0) for number in range(3)])
        self.assertEqual((missing_blocks(world), lasting_blocks(world)), ((), block_files(PLAN)))

    def test_no_more_needed_as_files_behind_them_are_whole(self):
        world = all_burnt(fresh(2))
        blocks = block_files(PLAN)
        firsts = [task for task in TASKS if inputs_of(PLAN, task) == [blocks[0]]]
        self.assertEqual(len(firsts), 1)
        put(world, 1, *files_of(PLAN, firsts[0]))
        self.assertEqual(missing_blocks(world), tuple([file[:2] for file in blocks[1:]]))
        put(world, 0, *answer_files(PLAN))
        self.assertEqual((missing_blocks(world), lasting_blocks(world)), ((), []))
        self.assertLessEqual(finish(world), 3)
        self.assertEqual(world.middle.answer, answer(JOB, DATA))

    def test_a_torn_block_is_not_whole(self):
        world = fresh(2, 1)
        file = block_files(PLAN)[0]
        many, rows = world.machines[0].disk[file]
        world.machines[0].disk[file] = (many, rows[:1])
        self.assertEqual((missing_blocks(world), lasting_blocks(world)), ((file[:2],), block_files(PLAN)[1:]))

    def test_blocks_that_nothing_needs(self):
        plan = plan_of(job_of("fold"), {"a": 2, "b": 2}, 2, True)
        world = all_burnt(World(plan, blocks_of(DATA, {"a": 2, "b": 2}), 2, 1, 1))
        self.assertEqual(missing_blocks(world), tuple([file[:2] for file in block_files(plan)[:2]]))

    def test_by_the_words_behind_histories(self):
        some = 0
        for _, _, _, _, world in worlds(range(300), (30, 300, 600), 3):
            if len(tasks_of(world.plan)) < 40:
                missing = missing_by_the_words(world)
                some += missing != ()
                self.assertEqual(missing_blocks(world), missing)
                whole = {file for machine in world.machines for file in machine.whole_files()}
                self.assertEqual(lasting_blocks(world), [file for file in block_files(world.plan) if file in whole])
        self.assertGreater(some, 20)


class Wrong(unittest.TestCase):
    def test_always_none(self):
        for _, _, _, _, world in worlds(range(150)):
            self.assertEqual(wrong_files(world), [])

    def test_rows_that_are_not_those_of_the_name(self):
        world = fresh()
        finish(world)
        block = block_files(PLAN)[0]
        homes = [machine for machine in world.machines if machine.whole(block)]
        rows = FILES[block]
        for number in (1, 0):
            homes[number].disk[block] = (len(rows), tuple([rows[0]] * len(rows)))
        self.assertEqual(wrong_files(world), [(machine.number, block) for machine in homes])
        homes[0].disk[block] = (len(rows), list(rows))
        self.assertEqual(wrong_files(world), [(homes[1].number, block)])
        # One that is not whole is no wrong one.
        homes[1].disk[block] = (len(rows), ((9, "z"),))
        self.assertEqual(wrong_files(world), [])
        world.event("fall", 2, 0)
        file = answer_files(PLAN)[0]
        world.machines[2].disk[file] = (1, (("z", 9, 9),))
        self.assertEqual(wrong_files(world), [(2, file)])
        world.machines[0].disk[(99, 0, 0)] = (0, ())
        self.assertEqual(wrong_files(world), [(0, (99, 0, 0)), (2, file)])


if __name__ == "__main__":
    unittest.main()
