"""[26] worlds; [23] letters and steps, [34] what always holds, behind histories."""

import copy
import unittest

from countedonce.blocks import block_files, block_of, blocks_of, homes_of
from countedonce.errors import BadThing
from countedonce.jobreader import read_job
from countedonce.plans import answer_files, files_of, inputs_of, plan_of, tasks_of
from countedonce.tasks import all_files
from countedonce.worlds import World, played
from tests import makers
from tests.plots import DATA, answer, job_of, plots, random_plots
from tests.tales import KINDS, events, seen, seen_machine, world_of, worlds

JOB = job_of("several")
CUTS = {"a": 3, "b": 2}
PLAN = plan_of(JOB, CUTS, 2, True)
BLOCKS = blocks_of(DATA, CUTS)
FILES = all_files(PLAN, BLOCKS)
# A task that reads a block and writes two files.
CUT = [task for task in tasks_of(PLAN) if len(files_of(PLAN, task)) == 2 and inputs_of(PLAN, task)][-1]


def fresh(machines=3, copies=2, patience=1):
    return World(PLAN, BLOCKS, machines, copies, patience)


def wrong(blocks, machines=3, copies=2, patience=1, plan=PLAN):
    try:
        World(plan, blocks, machines, copies, patience)
    except BadThing as error:
        return error.thing
    return None


def goes(world):
    """A world, gone on until all its first letters and orders are sent."""
    return played(world, [("begin", 0, 0), ("think", 0, 0)])


def with_work(machines=3, copies=2):
    """A world in which the first machine has a work that is ready."""
    world = goes(fresh(machines, copies))
    for file in inputs_of(PLAN, CUT):
        world.machines[0].disk[file] = (len(FILES[file]), FILES[file])
    world.machines[0].letter(PLAN, ("work", 0, (1, 1), CUT, tuple([(file, (0,)) for file in inputs_of(PLAN, CUT)])))
    return world


class Making(unittest.TestCase):
    def test_fresh(self):
        world = fresh()
        self.assertEqual((world.letters, world.answers, world.worked()), ([], [], 0))
        self.assertIs(type(world.letters), list)
        self.assertIs(type(world.answers), list)
        self.assertEqual([machine.number for machine in world.machines], [0, 1, 2])
        self.assertTrue(all(machine.is_up for machine in world.machines))
        self.assertEqual([machine.works for machine in world.machines], [[], [], []])
        self.assertEqual((world.middle.is_up, world.middle.journal, world.middle.answer), (False, [], None))
        self.assertEqual((world.plan, world.blocks), (PLAN, BLOCKS))

    def test_blocks_on_their_homes_counted_in_the_order_of_block_files(self):
        for plan, blocks in ((PLAN, BLOCKS), (plan_of(job_of("read"), {"a": 2, "b": 7}, 2, True),
                                              blocks_of(DATA, {"a": 2, "b": 7}))):
            for machines, copies in ((1, 1), (3, 1), (3, 2), (3, 5), (12, 4)):
                world = World(plan, blocks, machines, copies, 1)
                disks = [{} for _ in range(machines)]
                for number, file in enumerate(block_files(plan)):
                    name, part = block_of(plan, file)
                    for home in homes_of(number, copies, machines):
                        disks[home][file] = (len(blocks[name][part]), tuple(blocks[name][part]))
                self.assertEqual([machine.disk for machine in world.machines], disks)
                for machine in world.machines:
                    self.assertEqual(machine.whole_files(), tuple(sorted(machine.disk)))

    def test_by_hand(self):
        plan = plan_of(job_of("fold"), {"a": 2}, 3, True)
        world = World(plan, blocks_of(DATA, {"a": 2}), 2, 1, 1)
        one, two, three = block_files(plan)
        self.assertEqual([list(machine.disk) for machine in world.machines], [[one, three], [two]])
        self.assertEqual(world.machines[1].disk[two], (5, tuple(DATA["a"][5:])))

    def test_wrong_numbers_of_blocks(self):
        a, b = BLOCKS["a"], BLOCKS["b"]
        self.assertIsNone(wrong({"a": a, "b": b}))
        self.assertIsNone(wrong({"b": tuple(b), "a": tuple(a), "z": [()] * 9}))
        self.assertEqual(wrong({"a": a[:2], "b": b}), "a")
        self.assertEqual(wrong({"a": a, "b": b + [()]}), "b")
        self.assertEqual(wrong({"a": a, "b": []}), "b")
        self.assertEqual(wrong({"b": b}), "a")
        self.assertEqual(wrong({"a": a}), "b")
        self.assertEqual(wrong({}), "a")
        self.assertEqual(wrong({"b": b[:1], "a": a[:1]}), "a")
        # A table on which the answer does not hang, and one of which there is just one block.
        plan = plan_of(job_of("fold"), {"a": 3}, 2, True)
        self.assertEqual(wrong({"a": a}, plan=plan), "b")
        self.assertEqual(wrong({"a": a, "b": b}, plan=plan), "b")
        self.assertIsNone(wrong({"a": a, "b": [()]}, plan=plan))

    def test_wrong_tables_in_the_order_of_the_reads(self):
        plan = plan_of(read_job("read z(x int)\nread a(x int)\nc = union a, z\nanswer c"), {}, 1, True)
        self.assertEqual(wrong({}, plan=plan), "z")
        self.assertEqual(wrong({"z": [()]}, plan=plan), "a")

    def test_wrong_numbers(self):
        for number in (0, -1, -10 ** 9):
            self.assertEqual(wrong(BLOCKS, number), number)
            self.assertEqual(wrong(BLOCKS, 3, number), number)
            self.assertEqual(wrong(BLOCKS, 3, 2, number), number)
        for number in (13, 14, 10 ** 9):
            self.assertEqual(wrong(BLOCKS, number), number)
        for numbers in ((12, 2, 1), (1, 1, 1), (12, 99, 99), (1, 13, 13)):
            self.assertIsNone(wrong(BLOCKS, *numbers))

    def test_several_wrong_at_once(self):
        self.assertEqual(wrong({}, 0, -1, -2), "a")
        self.assertEqual(wrong({"a": BLOCKS["a"]}, 13, 0, 0), "b")
        self.assertEqual(wrong(BLOCKS, 0, -1, -2), 0)
        self.assertEqual(wrong(BLOCKS, 3, -1, -2), -1)
        self.assertEqual(wrong(BLOCKS, 13, -1, -2), -1)
        self.assertEqual(wrong(BLOCKS, 13, 1, -2), -2)
        self.assertEqual(wrong(BLOCKS, -5, 1, -2), -5)

    def test_nothing_that_is_passed_is_changed(self):
        kept = copy.deepcopy((PLAN, BLOCKS))
        history = events(makers.source(3), 400)
        kept_history = list(history)
        played(fresh(), history)
        self.assertEqual((PLAN, BLOCKS), kept)
        self.assertEqual(history, kept_history)
        self.assertIsNot(fresh().letters, fresh().letters)


class OfLetters(unittest.TestCase):
    def test_no_letter(self):
        for kind in ("come", "lose", "double"):
            world = played(fresh(), [("begin", 0, 0)])
            before = seen(world)
            for at in (0, 1, 7):
                world.event(kind, at, 3)
            self.assertEqual(seen(world), before)

    def test_come(self):
        world = goes(fresh())
        tells = list(world.letters)
        self.assertEqual(tells, [("tell", number, (1, 1)) for number in range(3)])
        world.event("come", 1, 0)
        told = ("told", -1, (1, 1), 1, world.machines[1].whole_files(), ())
        self.assertEqual(world.letters, [tells[0], tells[2], told])
        # 5 of three letters is the last one, which is for the middle one and sends nothing.
        world.event("come", 5, 9)
        self.assertEqual(world.letters, [tells[0], tells[2]])
        self.assertEqual(world.middle.told, {1: (world.machines[1].whole_files(), ())})

    def test_what_a_letter_sends_stands_at_the_end_in_its_order(self):
        world = goes(fresh())
        world.machines[1].works.clear()
        order = ("work", 1, (1, 1), CUT, tuple([(file, (0, 2)) for file in inputs_of(PLAN, CUT)]))
        several = [task for task in tasks_of(PLAN) if len(set(inputs_of(PLAN, task))) > 1][0]
        more = ("work", 1, (1, 1), several, tuple([(file, (2,)) for file in inputs_of(PLAN, several)]))
        world.letters = [more, ("ask", 2, (9, 9, 9), 0), order]
        world.event("come", 3, 0)
        asks = [("ask", 2, file, 1) for file in inputs_of(PLAN, several)]
        self.assertEqual(world.letters, [("ask", 2, (9, 9, 9), 0), order] + asks)
        world.event("come", 0, 0)
        self.assertEqual(world.letters, [order] + asks + [("lack", 0, (9, 9, 9))])

    def test_lose(self):
        world = goes(fresh())
        tells = list(world.letters)
        before = seen(world)
        world.event("lose", 7, 0)
        self.assertEqual(world.letters, [tells[0], tells[2]])
        world.event("lose", 0, 0)
        self.assertEqual(world.letters, [tells[2]])
        world.letters = tells
        self.assertEqual(seen(world), before)

    def test_double(self):
        world = goes(fresh())
        tells = list(world.letters)
        before = seen(world)
        world.event("double", 4, 0)
        self.assertEqual(world.letters, tells + [tells[1]])
        world.event("double", 3, 0)
        self.assertEqual(world.letters, tells + [tells[1], tells[1]])
        world.letters = tells
        self.assertEqual(seen(world), before)

    def test_to_a_machine_that_is_down(self):
        world = goes(fresh())
        tells = list(world.letters)
        world.event("fall", 1, 0)
        before = seen_machine(world.machines[1])
        world.event("come", 1, 0)
        self.assertEqual(world.letters, [tells[0], tells[2]])
        self.assertEqual(seen_machine(world.machines[1]), before)
        world.letters.append(("work", 1, (1, 1), CUT, ()))
        world.event("come", 2, 0)
        self.assertEqual((world.machines[1].works, len(world.letters)), ([], 2))

    def test_to_the_middle_one_that_is_down(self):
        world = played(goes(fresh()), [("come", 0, 0)] * 3)
        self.assertEqual([letter[0] for letter in world.letters], ["told"] * 3)
        world.letters.append(("give", -1, answer_files(PLAN)[0], FILES[answer_files(PLAN)[0]]))
        world.event("stop", 0, 0)
        played(world, [("come", 0, 0)] * 4)
        self.assertEqual(world.letters, [])
        played(world, [("begin", 0, 0), ("think", 0, 0)])
        self.assertEqual([letter[0] for letter in world.letters], ["tell"] * 3)
        self.assertIsNone(world.middle.answer)

    def test_an_old_letter_of_another_turn_is_not_kept(self):
        world = played(goes(fresh()), [("come", 0, 0)] * 3 + [("think", 0, 0), ("come", 0, 0)])
        self.assertEqual(world.middle.told, {})


class OfMachines(unittest.TestCase):
    def test_fall_rise_burn(self):
        for number in (1, 4, 10 ** 6):
            world = goes(fresh())
            others = [seen_machine(world.machines[at]) for at in (0, 2)]
            disk = dict(world.machines[1].disk)
            world.event("fall", number, 5)
            self.assertEqual((world.machines[1].is_up, world.machines[1].disk), (False, disk))
            world.event("rise", number, 5)
            self.assertEqual((world.machines[1].is_up, world.machines[1].disk), (True, disk))
            world.event("burn", number, 5)
            self.assertEqual((world.machines[1].is_up, world.machines[1].disk), (False, {}))
            world.event("rise", number, 5)
            self.assertEqual((world.machines[1].is_up, world.machines[1].disk), (True, {}))
            self.assertEqual([seen_machine(world.machines[at]) for at in (0, 2)], others)
            self.assertEqual(len(world.letters), 3)

    def test_a_machine_that_is_down_burns(self):
        world = played(fresh(), [("fall", 1, 0), ("burn", 1, 0)])
        self.assertEqual(world.machines[1].disk, {})

    def test_step(self):
        for at in (0, 3, 999):
            world = with_work()
            world.event("step", at, 1)
            for file in files_of(PLAN, CUT):
                self.assertEqual(world.machines[0].disk[file], (len(FILES[file]), FILES[file]))
            self.assertEqual((world.worked(), world.machines[0].worked, world.machines[0].works), (1, 1, []))
            self.assertTrue(world.machines[0].is_up)
            world.event("step", at, 1)
            self.assertEqual(world.worked(), 1)

    def test_of_another_machine(self):
        world = with_work()
        for kind in ("step", "tear"):
            world.event(kind, 1, 0)
            self.assertEqual((world.worked(), len(world.machines[0].works)), (0, 1))
            self.assertTrue(world.machines[1].is_up)

    def test_tear_writes_half(self):
        first, second = files_of(PLAN, CUT)
        self.assertGreater(max(len(FILES[first]), len(FILES[second])), 0)
        for more in range(5):
            world = with_work()
            disk = dict(world.machines[0].disk)
            world.event("tear", 3, more)
            files = [first, second][:more % 2]
            disk.update({file: (len(FILES[file]), FILES[file]) for file in files})
            torn = FILES[[first, second][more % 2]]
            disk[[first, second][more % 2]] = (len(torn), torn[:len(torn) // 2])
            self.assertEqual(world.machines[0].disk, disk)
            self.assertEqual((world.machines[0].is_up, world.machines[0].works, world.worked()), (False, [], 0))

    def test_no_step_of_a_machine_that_is_down(self):
        for kind in ("step", "tear"):
            world = with_work()
            works = world.machines[0].works
            world.event("fall", 0, 0)
            # No machine that fell has works; this one is given them back.
            world.machines[0].works = works
            disk = dict(world.machines[0].disk)
            world.event(kind, 0, 0)
            self.assertEqual((world.machines[0].disk, world.worked(), len(works)), (disk, 0, 1))

    def test_worked_is_of_all_machines(self):
        world = fresh()
        for machine in world.machines:
            machine.worked = machine.number + 5
        self.assertEqual(world.worked(), 18)
        world.event("burn", 2, 0)
        self.assertEqual(world.worked(), 18)


class OfTheMiddleOne(unittest.TestCase):
    def test_begin_think_stop(self):
        world = fresh()
        world.event("think", 0, 0)
        self.assertEqual((world.letters, world.middle.is_up), ([], False))
        world.event("begin torn", 3, 3)
        self.assertEqual((world.middle.is_up, world.middle.journal), (False, [False]))
        world.event("think", 0, 0)
        self.assertEqual(world.letters, [])
        world.event("begin", 3, 3)
        self.assertEqual((world.middle.is_up, world.middle.journal, world.middle.turn), (True, [False, True], (2, 0)))
        for kind in ("begin", "begin torn"):
            world.event(kind, 0, 0)
            self.assertEqual((world.middle.is_up, world.middle.journal), (True, [False, True]))
        world.event("think", 3, 3)
        self.assertEqual(world.letters, [("tell", number, (2, 1)) for number in range(3)])
        world.event("think", 3, 3)
        self.assertEqual(world.letters[3:], [("tell", number, (2, 2)) for number in range(3)])
        world.event("stop", 3, 3)
        self.assertEqual((world.middle.is_up, world.middle.journal), (False, [False, True]))
        world.event("stop", 3, 3)
        world.event("begin", 0, 0)
        self.assertEqual((world.middle.turn, world.middle.journal), ((3, 0), [False, True, True]))

    def test_answers_one_more_each_time_one_is_told(self):
        want = answer(JOB, DATA)
        world = goes(fresh())
        gives = [("give", -1, file, FILES[file]) for file in answer_files(PLAN)]
        world.letters = list(gives)
        played(world, [("come", 0, 0)] * len(gives))
        self.assertEqual((world.answers, world.middle.answer), ([], None))
        world.event("think", 0, 0)
        self.assertEqual(world.answers, [tuple(want)])
        self.assertIs(type(world.answers[0]), tuple)
        self.assertEqual(world.middle.answer, want)
        played(world, [("think", 0, 0)] * 3)
        self.assertEqual(world.answers, [tuple(want)])
        played(world, [("stop", 0, 0), ("begin", 0, 0), ("think", 0, 0)])
        self.assertEqual((world.answers, world.middle.answer), ([tuple(want)], None))
        world.letters = list(gives)
        played(world, [("come", 0, 0)] * len(gives) + [("think", 0, 0), ("think", 0, 0)])
        self.assertEqual(world.answers, [tuple(want), tuple(want)])

    def test_an_answer_of_no_rows_is_told_as_well(self):
        data = {"a": [], "b": []}
        world = goes(World(PLAN, blocks_of(data, CUTS), 2, 1, 1))
        world.letters = [("give", -1, file, ()) for file in answer_files(PLAN)]
        played(world, [("come", 0, 0)] * len(world.letters) + [("think", 0, 0), ("think", 0, 0)])
        self.assertEqual(world.answers, [()])


class Played(unittest.TestCase):
    def test_the_same_world(self):
        world = fresh()
        self.assertIs(played(world, []), world)
        self.assertIs(played(world, [("begin", 0, 0), ("think", 0, 0)]), world)
        self.assertEqual(len(world.letters), 3)

    def test_as_event_by_event(self):
        for seed in range(20):
            history = events(makers.source(seed), 200)
            one, other = fresh(), fresh()
            played(one, tuple(history))
            for kind, at, more in history:
                other.event(kind, at, more)
            self.assertEqual(seen(one), seen(other))

    def test_the_same_history_makes_the_same_world(self):
        for seed, _, _, plan, blocks in random_plots(range(30), 4):
            history = events(makers.source(seed), 300)
            ends = [seen(played(world_of(makers.source(seed), plan, blocks), history)) for _ in range(2)]
            self.assertEqual(ends[0], ends[1])


def rows_about(world):
    """Pairs of files and rows: whole ones, those under way, those that works have, those that are kept."""
    found = []
    for machine in world.machines:
        found += [(file, machine.disk[file][1]) for file in machine.whole_files()]
        found += [pair for work in machine.works for pair in work.has.items()]
    found += [(letter[2], letter[3]) for letter in world.letters if letter[0] == "give"]
    return found


class Facts(unittest.TestCase):
    def check(self, job, data, world, the_files):
        for file, rows in rows_about(world):
            self.assertEqual(tuple(rows), the_files[file])
        for rows in world.answers:
            self.assertEqual(list(rows), answer(job, data))

    def test_whatever_falls(self):
        answers = kinds = 0
        for seed, job, data, plan, blocks in random_plots(range(500), 5):
            rng = makers.source(seed)
            world = world_of(rng, plan, blocks)
            the_files = all_files(plan, blocks)
            for _ in range(5):
                played(world, events(rng, 300))
                self.check(job, data, world, the_files)
            answers += len(world.answers)
            kinds += len(world.answers) > 1
        self.assertGreater(answers, 100)
        self.assertGreater(kinds, 5)

    def test_every_kind_of_step(self):
        told = set()
        for number, (name, job, data, plan, blocks) in enumerate(plots(({}, {"a": 2, "b": 3}), (1, 3))):
            rng = makers.source(number)
            world = world_of(rng, plan, blocks)
            the_files = all_files(plan, blocks)
            for _ in range(4):
                played(world, events(rng, 200))
                self.check(job, data, world, the_files)
            if world.answers:
                told.add(name)
        self.assertGreater(len(told), 9)

    def test_3000_events(self):
        for seed in range(6):
            rng = makers.source(seed)
            world = played(World(PLAN, BLOCKS, 12, 3, 1), events(rng, 3000))
            self.check(JOB, DATA, world, FILES)

    def letters(self, world):
        """The letters under way, and some of all kinds that works may be sent."""
        the_files = all_files(world.plan, world.blocks)
        made = [letter for machine in world.machines for work in machine.works for file in work.wants
                for letter in (("lack", machine.number, file), ("give", machine.number, file, the_files[file]))]
        return world.letters[:40] + made

    def test_a_letter_that_comes_once_or_twice(self):
        some = dict.fromkeys(("tell", "ask", "work", "give", "lack"), 0)
        for _, _, _, _, world in worlds(range(400), (100, 300, 600)):
            for letter in self.letters(world):
                if letter[1] != -1 and world.machines[letter[1]].is_up:
                    once = copy.deepcopy(world.machines[letter[1]])
                    once.letter(world.plan, letter)
                    twice = copy.deepcopy(once)
                    twice.letter(world.plan, letter)
                    self.assertEqual(seen_machine(twice), seen_machine(once))
                    some[letter[0]] += 1
                elif letter[1] == -1 and world.middle.is_up:
                    once = copy.deepcopy(world.middle)
                    once.letter(letter)
                    twice = copy.deepcopy(once)
                    twice.letter(letter)
                    self.assertEqual((twice.told, twice.kept), (once.told, once.kept))
        self.assertGreater(min(some.values()), 20)

    def test_a_step_twice_works_a_task_once(self):
        for _, _, _, _, world in worlds(range(80), (100, 300)):
            for machine in world.machines:
                while machine.ready() is not None:
                    task = machine.ready().task
                    had = machine.has_task(world.plan, task)
                    worked = machine.worked
                    machine.step(world.plan, None)
                    self.assertTrue(machine.has_task(world.plan, task))
                    self.assertEqual(machine.worked - worked, 0 if had else 1)

    def test_all_kinds_of_events_are_drawn(self):
        kinds = {kind for seed in range(30) for kind, _, _ in events(makers.source(seed), 300)}
        self.assertEqual(kinds, set(KINDS))


if __name__ == "__main__":
    unittest.main()
