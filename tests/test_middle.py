"""[25] the middle one."""

import copy
import unittest

from countedonce.blocks import blocks_of
from countedonce.meaning import meaning
from countedonce.middle import Middle
from countedonce.plans import answer_files, files_of, inputs_of, plan_of, tasks_of
from countedonce.scheduling import places_told
from countedonce.tasks import all_files
from tests import makers
from tests.plots import DATA, job_of, plots

JOB = job_of("fold")
PLAN = plan_of(JOB, {"a": 3}, 2, True)
FILES = all_files(PLAN, blocks_of(DATA, {"a": 3}))
BLOCKS = [task for task in tasks_of(PLAN) if not inputs_of(PLAN, task)][:3]
CUTS = [task for task in tasks_of(PLAN) if len(files_of(PLAN, task)) == 2]
FOLDS = [task for task in tasks_of(PLAN) if len(inputs_of(PLAN, task)) == 3]
ANSWER = answer_files(PLAN)


def files(*tasks):
    return tuple(sorted([file for task in tasks for file in files_of(PLAN, task)]))


def begun(machines=2, patience=1, plan=PLAN):
    middle = Middle(plan, machines, patience)
    middle.begin(False)
    return middle


def tell(middle, machine, done, works=(), turn=None):
    middle.letter(("told", -1, middle.turn if turn is None else turn, machine, files(*done), tuple(works)))


def give(middle, file):
    middle.letter(("give", -1, file, FILES[file]))


def tells(middle, machines=2):
    return [("tell", machine, middle.turn) for machine in range(machines)]


def order(middle, machine, task, told):
    places = places_told(told)
    return ("work", machine, middle.turn, task, tuple([(file, places[file]) for file in inputs_of(PLAN, task)]))


class Beginning(unittest.TestCase):
    def test_new(self):
        middle = Middle(PLAN, 3, 2)
        self.assertEqual((middle.is_up, middle.journal, middle.told, middle.answer, middle.lost),
                         (False, [], {}, None, ()))
        self.assertTrue(hasattr(middle, "turn"))

    def test_begin(self):
        middle = begun()
        self.assertEqual((middle.is_up, middle.journal, middle.turn), (True, [True], (1, 0)))
        middle.begin(False)
        middle.begin(True)
        self.assertEqual((middle.is_up, middle.journal, middle.turn), (True, [True], (1, 0)))

    def test_torn(self):
        middle = Middle(PLAN, 2, 1)
        middle.begin(True)
        middle.begin(True)
        self.assertEqual((middle.is_up, middle.journal), (False, [False, False]))
        middle.begin(False)
        self.assertEqual((middle.is_up, middle.journal, middle.turn), (True, [False, False, True], (3, 0)))

    def test_fall_leaves_the_journal_alone(self):
        middle = begun(1)
        middle.think()
        tell(middle, 0, BLOCKS)
        for file in ANSWER:
            give(middle, file)
        middle.think()
        self.assertIsNotNone(middle.answer)
        middle.fall()
        self.assertEqual((middle.is_up, middle.journal, middle.told, middle.answer, middle.lost),
                         (False, [True], {}, None, ()))
        middle.begin(True)
        middle.begin(False)
        self.assertEqual((middle.turn, middle.journal), ((3, 0), [True, False, True]))
        middle.think()
        self.assertIsNone(middle.answer)

    def test_what_was_told_kept_and_lost_ahead_of_a_fall_is_gone(self):
        middle = begun(1)
        tell(middle, 0, ())
        middle.think()
        self.assertEqual(middle.lost, tuple(BLOCKS))
        tell(middle, 0, BLOCKS)
        give(middle, ANSWER[0])
        middle.fall()
        self.assertEqual((middle.lost, middle.told), ((), {}))
        middle.begin(False)
        self.assertEqual(middle.think(), tells(middle, 1))
        give(middle, ANSWER[1])
        middle.think()
        self.assertIsNone(middle.answer)

    def test_turns_grow_with_thoughts(self):
        middle = begun()
        for number in range(1, 5):
            self.assertEqual(middle.think(), [("tell", 0, (1, number)), ("tell", 1, (1, number))])
            self.assertEqual(middle.turn, (1, number))
        middle.fall()
        middle.begin(False)
        middle.think()
        self.assertEqual(middle.turn, (2, 1))


class Letters(unittest.TestCase):
    def test_told_of_just_this_turn(self):
        middle = begun(3)
        middle.think()
        middle.think()
        for turn in ((1, 0), (1, 1), (1, 3), (2, 2), (0, 2)):
            tell(middle, 0, BLOCKS, turn=turn)
        self.assertEqual(middle.told, {})
        tell(middle, 2, BLOCKS, [CUTS[0]])
        self.assertEqual(middle.told, {2: (files(*BLOCKS), (CUTS[0],))})
        tell(middle, 0, (), ())
        self.assertEqual(middle.told, {2: (files(*BLOCKS), (CUTS[0],)), 0: ((), ())})
        middle.think()
        self.assertEqual(middle.told, {})
        tell(middle, 1, BLOCKS, turn=(1, 2))
        self.assertEqual(middle.told, {})

    def test_the_answer_from_gives_in_any_order(self):
        for name, job, data, plan, blocks in plots(({"a": 2, "b": 3},), (2,)):
            found = all_files(plan, blocks)
            rng = makers.source(len(name))
            middle = begun(plan=plan)
            some = answer_files(plan)
            for file in rng.sample(some, len(some)):
                self.assertIsNone(middle.answer)
                middle.think()
                self.assertIsNone(middle.answer)
                middle.letter(("give", -1, file, found[file]))
            middle.think()
            self.assertEqual(middle.answer, meaning(job, data))
            self.assertIsInstance(middle.answer, list)
            middle.think()
            self.assertEqual(middle.answer, meaning(job, data))

    def test_gives_of_other_files(self):
        middle = begun()
        for file in sorted(FILES):
            if file not in ANSWER:
                give(middle, file)
        give(middle, ANSWER[0])
        give(middle, ANSWER[0])
        middle.think()
        self.assertIsNone(middle.answer)
        give(middle, ANSWER[1])
        middle.think()
        self.assertEqual(middle.answer, meaning(JOB, DATA))

    def test_letters_and_arguments_are_not_changed(self):
        middle = begun()
        plan = copy.deepcopy(PLAN)
        for letter in (("told", -1, (1, 0), 0, files(*BLOCKS), (CUTS[0],)), ("give", -1, ANSWER[0], ((1, 2),))):
            kept = copy.deepcopy(letter)
            middle.letter(letter)
            middle.think()
            self.assertEqual(letter, kept)
        self.assertEqual(PLAN, plan)


class Thoughts(unittest.TestCase):
    def test_lost_if_all_machines_told(self):
        middle = begun(2)
        tell(middle, 0, BLOCKS[:1])
        middle.think()
        self.assertEqual(middle.lost, ())
        tell(middle, 0, BLOCKS[:1])
        tell(middle, 1, BLOCKS[2:])
        middle.think()
        self.assertEqual(middle.lost, (BLOCKS[1],))
        tell(middle, 1, BLOCKS[2:])
        tell(middle, 0, BLOCKS[:1], turn=(1, 1))
        middle.think()
        self.assertEqual(middle.lost, ())
        tell(middle, 0, ())
        tell(middle, 1, ())
        middle.think()
        self.assertEqual(middle.lost, tuple(BLOCKS))
        tell(middle, 0, CUTS[:1])
        tell(middle, 1, BLOCKS[1:2])
        middle.think()
        self.assertEqual(middle.lost, (BLOCKS[2],))

    def test_letters_in_their_order(self):
        middle = begun(2)
        told = {0: (files(*BLOCKS, CUTS[0], FOLDS[0]), ()), 1: (files(CUTS[1]), (CUTS[2],))}
        tell(middle, 0, BLOCKS + [CUTS[0], FOLDS[0]])
        tell(middle, 1, [CUTS[1]], [CUTS[2]])
        sent = middle.think()
        self.assertEqual(middle.turn, (1, 1))
        self.assertEqual(sent, [("ask", 0, ANSWER[0], -1), order(middle, 1, CUTS[2], told)] + tells(middle))

    def test_the_first_machine_is_asked_for_what_is_not_kept(self):
        middle = begun(3)
        for machine in (2, 1):
            tell(middle, machine, FOLDS)
        self.assertEqual(middle.think(), [("ask", 1, file, -1) for file in ANSWER] + tells(middle, 3))
        give(middle, ANSWER[0])
        tell(middle, 2, FOLDS)
        tell(middle, 0, FOLDS[1:])
        self.assertEqual(middle.think(), [("ask", 0, ANSWER[1], -1)] + tells(middle, 3))

    def test_orders_tell_places_of_all_files_in_their_order(self):
        middle = begun(3)
        told = {0: (files(*CUTS[:2]), ()), 2: (files(*CUTS[1:]), ((9, 9),))}
        tell(middle, 0, CUTS[:2])
        tell(middle, 2, CUTS[1:], [(9, 9)])
        sent = middle.think()
        self.assertEqual(sent, [order(middle, 0, FOLDS[0], told), order(middle, 0, FOLDS[1], told)] + tells(middle, 3))
        self.assertEqual(sent[0][4], tuple(zip(inputs_of(PLAN, FOLDS[0]), [(0,), (0, 2), (2,)])))

    def test_nothing_told(self):
        middle = begun(4)
        self.assertEqual(middle.think(), tells(middle, 4))

    def test_none_but_asks_behind_the_answer(self):
        middle = begun(2)
        for file in ANSWER:
            give(middle, file)
        tell(middle, 0, BLOCKS)
        tell(middle, 1, BLOCKS)
        self.assertEqual(middle.think(), [])
        self.assertEqual(middle.answer, meaning(JOB, DATA))
        self.assertEqual(middle.think(), [])

    def test_an_answer_without_rows(self):
        middle = begun(1)
        for file in ANSWER:
            middle.letter(("give", -1, file, ()))
        self.assertEqual(middle.think(), [])
        self.assertEqual(middle.answer, [])
        self.assertEqual(middle.think(), [])


class Ages(unittest.TestCase):
    def new_orders(self, middle, works):
        """The machines of which the cut is newly ordered, where some have it in work."""
        for machine in range(3):
            tell(middle, machine, BLOCKS[:1], [CUTS[0]] if machine in works else [])
        sent = [letter for letter in middle.think() if letter[0] == "work"]
        self.assertEqual([letter[3] for letter in sent], [CUTS[0]] * len(sent))
        self.assertEqual([letter[1] for letter in sent[:len(works)]], works)
        return [letter[1] for letter in sent[len(works):]]

    def forgotten(self, middle):
        """A thought with no order of the cut."""
        self.assertEqual(middle.think(), tells(middle, 3))

    def test_a_new_order_behind_as_many_thoughts_as_patience_and_one_more(self):
        for patience in (1, 2, 4):
            middle = begun(3, patience)
            self.assertEqual(self.new_orders(middle, []), [0])
            for _ in range(patience + 1):
                self.assertEqual(self.new_orders(middle, [0]), [])
            self.assertEqual(self.new_orders(middle, [0]), [1])
            # The new order made the age 0; several orders alone make it 1 more, as one does.
            for _ in range(patience + 1):
                self.assertEqual(self.new_orders(middle, [0, 1]), [])
            self.assertEqual(self.new_orders(middle, [0, 1]), [2])
            for _ in range(patience + 4):
                self.assertEqual(self.new_orders(middle, [0, 1, 2]), [])

    def test_an_age_is_0_at_first(self):
        middle = begun(3, 2)
        for _ in range(3):
            self.assertEqual(self.new_orders(middle, [1]), [])
        self.assertEqual(self.new_orders(middle, [1]), [0])

    def test_a_thought_without_an_order_makes_the_age_forgotten(self):
        middle = begun(3, 1)
        for _ in range(2):
            self.assertEqual(self.new_orders(middle, [1]), [])
        self.forgotten(middle)
        for _ in range(2):
            self.assertEqual(self.new_orders(middle, [1]), [])
        self.assertEqual(self.new_orders(middle, [1]), [0])

    def test_ages_are_gone_behind_a_fall(self):
        middle = begun(3, 1)
        for _ in range(2):
            self.assertEqual(self.new_orders(middle, [1]), [])
        middle.fall()
        middle.begin(False)
        for _ in range(2):
            self.assertEqual(self.new_orders(middle, [1]), [])
        self.assertEqual(self.new_orders(middle, [1]), [0])


if __name__ == "__main__":
    unittest.main()
