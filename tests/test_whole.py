"""[33] the whole, and [1] over the whole program."""

import copy
import unittest

from countedonce.audits import audited, files_in
from countedonce.blocks import block_files, blocks_of
from countedonce.errors import BadJob, BadText, BadThing, BatchError
from countedonce.fair import finish, missing_blocks, most_rounds, most_worked
from countedonce.histories import history_by, history_text
from countedonce.jobchecker import columns_of
from countedonce.jobreader import read_job
from countedonce.jobwriting import job_text
from countedonce.judge import improved, judged
from countedonce.plans import needed_tasks, plan_of
from countedonce.tabletexts import table_text
from countedonce.whole import run_all, told_behind, world_by
from countedonce.worlds import World, played
from tests import clerk, makers
from tests.plots import DATA, HEAD, HOT, JOBS, answer, job_of
from tests.tales import events, seen

CAKES = "read eaten(who text, cakes int)\nsums = fold eaten by who: sum(cakes) as many\nanswer sums"
EATEN = table_text("eaten", (("who", "text"), ("cakes", "int")), [("ann", 2), ("bo", 1), ("ann", 3), ("bo", 0)])
TABLES = [table_text(name, columns, DATA[name])
          for name, columns in (("a", (("x", "int"), ("t", "text"))), ("b", (("t", "text"), ("z", "int"))))]
PLAIN = ({"a": 2, "b": 3}, 2, True, False, 3, 2, 1, {})


def text_of(name):
    return job_text(job_of(name))


def changed(choice, at, value):
    return choice[:at] + (value,) + choice[at + 1:]


def wrong(job, tables, choice=PLAIN, history=""):
    """The error that is told, as its name and what it bears."""
    try:
        run_all(job, tables, choice, history)
    except BatchError as error:
        return (type(error).__name__,) + tuple(vars(error).values())
    return None


class Examples(unittest.TestCase):
    def test_the_first_of_all(self):
        told = run_all(CAKES, [EATEN], ({"eaten": 2}, 2, True, True, 3, 2, 1, {}), "begin\nthink\ncome 0\nfall 1\nstop")
        self.assertEqual(told[0], ("answer", (("ann", 5), ("bo", 1))))

    def test_people_that_stay_longest(self):
        job = ("read visits(who text, page text, seconds int)\nread people(who text, city text)\n"
               "long = filter visits where seconds > 10\nboth = join long, people by who\n"
               "pages = fold both by page: mean(seconds) as usual, unlike(city) as cities\n"
               "best = sort pages by usual down, page up first 2\nanswer best")
        visits = "visits(who text, page text, seconds int)\n" + "\n".join(
            ["\"ann\", \"home\", 30", "\"bo\", \"news\", 40", "\"ann\", \"news\", 3", "\"bo\", \"home\", 11",
             "\"cy\", \"home\", 99", "\"bo\", \"help\", 12"])
        people = "people(who text, city text)\n\"ann\", \"rome\"\n\"bo\", \"oslo\""
        want = (("news", 40, 1), ("home", 20, 2))
        for is_improved in (True, False):
            choice = ({"visits": 3}, 4, True, is_improved, 5, 2, 2, {"both": (), "pages": (("home",),)})
            for history in ("", "begin\nthink\ncome 0\ncome 0\nburn 4\nstop", "begin torn\nfall 0\nfall 1\nfall 2"):
                self.assertEqual(run_all(job, [people, visits], choice, history), (("answer", want), (want,)))


class Making(unittest.TestCase):
    def test_a_fresh_world(self):
        world = world_by(text_of("several"), TABLES, PLAIN)
        plan = plan_of(job_of("several"), {"a": 2, "b": 3}, 2, True, {})
        blocks = blocks_of(DATA, {"a": 2, "b": 3})
        self.assertEqual(seen(world), seen(World(plan, blocks, 3, 2, 1)))
        self.assertEqual(world.plan, plan)
        self.assertEqual({name: [tuple(rows) for rows in its] for name, its in world.blocks.items()}, blocks)

    def test_tables_in_any_order(self):
        for tables in (TABLES, TABLES[::-1], tuple(TABLES), tuple(TABLES[::-1])):
            self.assertEqual(run_all(text_of("several"), tables, PLAIN, "")[0],
                             ("answer", tuple(answer(job_of("several"), DATA))))

    def test_wrong_tables(self):
        job = text_of("several")
        a, b = TABLES
        c = "c(x int)"
        self.assertEqual(wrong(job, [a, b, a]), ("BadThing", "a"))
        self.assertEqual(wrong(job, [b, b, a]), ("BadThing", "b"))
        self.assertEqual(wrong(job, [a, c, b]), ("BadThing", "c"))
        self.assertEqual(wrong(job, [a, b, "d(x int, t text)"]), ("BadThing", "d"))
        self.assertEqual(wrong(job, [a, "e(x int)", "d(x int)", b]), ("BadThing", "e"))
        for other in ("a(x int)", "a(t text, x int)", "a(x int, t int)", "a(x int, u text)", "a(x int, t text, z int)"):
            self.assertEqual(wrong(job, [other, b]), ("BadThing", "a"))
            self.assertEqual(wrong(job, [b, other]), ("BadThing", "a"))
            self.assertEqual(wrong(job, [b, other, b]), ("BadThing", "a"))
            self.assertEqual(wrong(job, [b, b, other]), ("BadThing", "b"))
        self.assertEqual(wrong(job, [c, a, a]), ("BadThing", "c"))
        self.assertEqual(wrong(job, [a, a, c]), ("BadThing", "a"))

    def test_read_tables_that_lack(self):
        job = text_of("several")
        a, b = TABLES
        self.assertEqual(wrong(job, [a]), ("BadThing", "b"))
        self.assertEqual(wrong(job, [b]), ("BadThing", "a"))
        self.assertEqual(wrong(job, []), ("BadThing", "a"))
        self.assertEqual(wrong(job, ["c(x int)"]), ("BadThing", "c"))
        self.assertEqual(wrong(job, [b, "c(x int)"]), ("BadThing", "c"))
        self.assertEqual(wrong("read z(x int)\nread c(x int)\nd = union c, z\nanswer d", []), ("BadThing", "z"))
        self.assertEqual(wrong("read z(x int)\nread c(x int)\nd = union c, z\nanswer d", ["z(x int)"]), ("BadThing", "c"))
        # Also one on which the answer does not hang.
        self.assertEqual(wrong(text_of("fold"), [a]), ("BadThing", "b"))
        self.assertIsNone(wrong(text_of("fold"), [a, "b(t text, z int)"]))

    def test_wrong_texts(self):
        a, b = TABLES
        self.assertEqual(wrong("read a(x int", [a, b]), ("BadText", 1, 13))
        self.assertEqual(wrong(5, [a, b]), ("BadText", 0, 0))
        self.assertEqual(wrong(HEAD + "c = filter d where x\nanswer c", [a, b])[:2], ("BadJob", "c"))
        self.assertEqual(wrong(text_of("fold"), [a, b + "\n5"]), ("BadText", 8, 1))
        self.assertEqual(wrong(text_of("fold"), [a, ""]), ("BadText", 1, 1))
        self.assertEqual(wrong(text_of("fold"), [a, None]), ("BadText", 0, 0))
        self.assertEqual(wrong(text_of("fold"), [a, b], PLAIN, "think\nthinks"), ("BadText", 2, 1))
        self.assertEqual(wrong(text_of("fold"), [a, b], PLAIN, None), ("BadText", 0, 0))
        self.assertEqual(wrong(HEAD + "c = filter d where x\nanswer c", ["z(x int)"])[:2], ("BadJob", "c"))
        with self.assertRaises(BadJob):
            world_by(HEAD + "answer c", TABLES, PLAIN)
        with self.assertRaises(BadText):
            world_by(HEAD, TABLES, PLAIN)

    def test_wrong_choices(self):
        job = text_of("several")
        for is_improved in (True, False):
            choice = changed(PLAIN, 3, is_improved)
            self.assertEqual(wrong(job, TABLES, changed(choice, 4, 0)), ("BadThing", 0))
            self.assertEqual(wrong(job, TABLES, changed(choice, 4, 13)), ("BadThing", 13))
            self.assertIsNone(wrong(job, TABLES, changed(choice, 4, 12)))
            self.assertEqual(wrong(job, TABLES, changed(choice, 5, -1)), ("BadThing", -1))
            self.assertEqual(wrong(job, TABLES, changed(choice, 6, -2)), ("BadThing", -2))
            self.assertEqual(wrong(job, TABLES, changed(choice, 7, {"d": ()})), ("BadThing", "d"))
            self.assertEqual(wrong(job, TABLES, changed(choice, 7, {"e": (("p",),)})), ("BadThing", "e"))
            self.assertEqual(wrong(job, TABLES, changed(choice, 7, {"nobody": ()})), ("BadThing", "nobody"))
            self.assertEqual(wrong(job, TABLES, changed(choice, 0, {"a": 201})), ("BadThing", "a"))

    def test_nothing_is_changed(self):
        choice = ({"a": 2}, 2, True, True, 3, 2, 1, {"e": (), "f": (("p", 7),)})
        tables = list(TABLES)
        kept = copy.deepcopy((tables, choice))
        first = run_all(text_of("several"), tables, choice, "begin\nthink")
        self.assertEqual(run_all(text_of("several"), tables, choice, "begin\nthink"), first)
        self.assertEqual((tables, choice), kept)


class Choices(unittest.TestCase):
    def test_each_choice(self):
        for name in JOBS:
            want = tuple(answer(job_of(name), DATA))
            hows = HOT.get(name, {})
            for at, values in ((0, ({}, {"a": 1}, {"a": 20, "b": 6})), (1, (1, 2, 7)), (2, (True, False)), (3, (True, False)),
                               (4, (1, 2, 12)), (5, (1, 3, 99)), (6, (1, 5)), (7, ({}, hows))):
                for value in values:
                    told = run_all(text_of(name), TABLES, changed(PLAIN, at, value), "")
                    self.assertEqual(told, (("answer", want), (want,)), (name, at, value))

    def test_choices_make_other_plans(self):
        job = text_of("several")
        plain = world_by(job, TABLES, PLAIN)
        for at, value in ((0, {"a": 3}), (1, 3), (2, False), (7, {"e": ()}), (7, {"f": (("p", 7),)})):
            self.assertNotEqual(world_by(job, TABLES, changed(PLAIN, at, value)).plan, plain.plan)
        self.assertEqual(len(world_by(job, TABLES, changed(PLAIN, 4, 5)).machines), 5)
        self.assertEqual(len(world_by(job, TABLES, changed(PLAIN, 5, 1)).machines[0].disk), 2)
        self.assertEqual(world_by(job, TABLES, changed(PLAIN, 6, 7)).middle.patience, 7)

    def test_improved_ones_do_less(self):
        job = HEAD + "d = map a to t, x + 1 as y\ne = map d to t, y * 2 as z\nf = filter e where z > 6\nanswer f"
        worlds = [world_by(job, TABLES, changed(PLAIN, 3, is_improved)) for is_improved in (True, False)]
        tolds = [told_behind(world) for world in worlds]
        self.assertEqual(tolds[0], tolds[1])
        self.assertLess(worlds[0].worked(), worlds[1].worked())

    def test_hows_of_steps_that_are_improved_away(self):
        # The filter is put ahead of the join or the fold, which gets the filter's name.
        job = HEAD + ("d = join a, b by t\ne = filter d where x > 1 and z > 5\nf = fold e by t: sum(x) as s\n"
                      "g = filter f where t != \"q\"\nanswer g")
        want = ("answer", tuple(answer(read_job(job), DATA)))
        for hows in (None, {}, {"d": ()}, {"f": (("p",), ("q",))}, {"d": (), "f": (("p",),)}):
            for is_improved in (True, False):
                choice = PLAIN[:3] + (is_improved,) + PLAIN[4:7] + (hows,)
                self.assertEqual(run_all(job, TABLES, choice, "")[0], want)

    def test_hows_of_steps_that_stay_tell_of_improved_jobs_as_well(self):
        job = HEAD + ("d = map a to t, x + 1 as y\ne = map d to t, y * 2 as y\nf = join e, b by t\n"
                      "g = fold f by t: sum(y) as s, sum(z) as u\nanswer g")
        choice = changed(PLAIN, 3, True)
        plans = [world_by(job, TABLES, changed(choice, 7, hows)).plan for hows in (
            None, {"f": ()}, {"g": (("p",),)}, {"f": (), "g": (("p",),)})]
        self.assertEqual(len([plan for plan in plans if plans.count(plan) == 1]), 4)
        self.assertEqual(world_by(job, TABLES, changed(choice, 7, {})).plan, plans[0])

    def test_hows_of_a_fold_whose_name_a_new_join_has(self):
        # The fold is left out, its name given to a filter, and this then to the join that is put behind it.
        job = HEAD + ("s0 = fold a by t: count() as n\nd = join a, b by t\ne = unlike d\n"
                      "f = filter e where x > 1\nanswer f")
        better = judged(read_job(job), improved(read_job(job)))
        self.assertIn(("s0", "join"), [step[:2] for step in better[0]])
        want = ("answer", tuple(answer(read_job(job), DATA)))
        for hows in ({}, {"s0": (("p",),)}, {"s0": (("p",),), "d": ()}):
            for is_improved in (True, False):
                choice = PLAIN[:3] + (is_improved,) + PLAIN[4:7] + (hows,)
                self.assertEqual(run_all(job, TABLES, choice, "")[0], want)

    def test_hows_of_names_that_new_steps_have(self):
        # New steps of an improved job have names such as s0, which these steps give free.
        rows = ["s0 = fold a by t: count() as n", "s1 = filter s0 where t != \"q\"", "s2 = join b, s1 by t",
                "s3 = filter s2 where z > 5 and n > 0", "s4 = fold s3 by t, n: sum(z) as n2", "s5 = filter s4 where n > 1"]
        job = HEAD + "\n".join(rows) + "\nanswer s5"
        want = ("answer", tuple(answer(read_job(job), DATA)))
        for hows in ({"s0": (("p",), ("q",))}, {"s2": ()}, {"s4": (("p", 6),)},
                     {"s0": (("p",),), "s2": (), "s4": (("q", 2),)}):
            for is_improved in (True, False):
                choice = PLAIN[:3] + (is_improved,) + PLAIN[4:7] + (hows,)
                self.assertEqual(run_all(job, TABLES, choice, "")[0], want)


class Behind(unittest.TestCase):
    def test_an_answer(self):
        world = world_by(CAKES, [EATEN], ({"eaten": 2}, 2, True, False, 3, 2, 1, {}))
        want = (("ann", 5), ("bo", 1))
        told = told_behind(world)
        self.assertEqual(told, ("answer", want))
        self.assertIs(type(told), tuple)
        self.assertIs(type(told[1]), tuple)
        self.assertEqual(world.answers, [want])
        self.assertEqual(told_behind(world), ("answer", want))
        self.assertEqual(world.answers, [want])

    def test_lost_blocks(self):
        choice = ({"eaten": 3}, 2, True, False, 3, 1, 1, {})
        world = played(world_by(CAKES, [EATEN], choice), [("burn", 0, 0), ("burn", 2, 0)])
        lost = tuple([file[:2] for file in block_files(world.plan)[::2]])
        self.assertEqual(told_behind(world), ("lost", lost))
        self.assertEqual(missing_blocks(world), lost)
        self.assertEqual(run_all(CAKES, [EATEN], choice, "burn 0\nburn 2"), (("lost", lost), ()))

    def test_all_answers_that_were_told(self):
        choice = ({"eaten": 2}, 2, True, False, 2, 2, 1, {})
        want = (("ann", 5), ("bo", 1))
        world = world_by(CAKES, [EATEN], choice)
        # The history of a fair end, told as events: all letters in their order, all steps, a thought.
        lines = []
        while world.middle.answer is None:
            lines.append("begin")
            world.event("begin", 0, 0)
            while world.letters:
                lines.append("come 0")
                world.event("come", 0, 0)
            for number in (0, 1):
                while world.machines[number].ready() is not None:
                    lines.append("step %d" % number)
                    world.event("step", number, 0)
            lines.append("think")
            world.event("think", 0, 0)
        history = "\n".join(lines)
        self.assertEqual(run_all(CAKES, [EATEN], choice, history), (("answer", want), (want,)))
        self.assertEqual(run_all(CAKES, [EATEN], choice, history + "\nstop"), (("answer", want), (want, want)))
        self.assertEqual(run_all(CAKES, [EATEN], choice, history + "\nstop\n" + history), (("answer", want), (want, want)))
        burnt = "\nstop\nburn 0\nburn 1"
        told, answers = run_all(CAKES, [EATEN], choice, history + burnt)
        self.assertEqual((told[0], len(told[1]), answers), ("lost", 2, (want,)))


VALUES = {"int": (0, 1, 2, 3, 7, -1, -2, -5, 10 ** 18 - 1, 1 - 10 ** 18), "text": makers.TEXTS + (", #", "  ")}


def drawn_rows(rng, columns, most=9):
    return [tuple([rng.choice(VALUES[kind]) for _, kind in columns]) for _ in range(rng.randint(0, most))]


def drawn_whole(seed):
    """A drawn job, its data, and what is passed for them, or None for one that is too large."""
    rng = makers.source(seed)
    job, columns = makers.job(rng, 8)
    reads = [(step[0], step[3]) for step in job[0] if step[1] == "read"]
    data = {name: drawn_rows(rng, its) for name, its in reads}
    told = clerk.all_rows(job, data, columns)
    if max([len(rows) for rows in told.values()]) > 300:
        return None
    cuts, pieces, is_ahead, hows = makers.choice(rng, job, told, columns)
    tables = [table_text(name, its, data[name]) for name, its in rng.sample(reads, len(reads))]
    choice = (cuts, pieces, is_ahead, rng.random() < 0.5, rng.randint(1, 12), rng.randint(1, 4), rng.randint(1, 3), hows)
    history = [(kind, at % 10 ** 9, more) for kind, at, more in events(rng, rng.choice((0, 20, 100, 400, 900)))]
    return job, data, tables, choice, history_text(history)


class All(unittest.TestCase):
    def test_whatever_is_told_is_the_meaning(self):
        answers = lost = before = 0
        for seed in range(900):
            made = drawn_whole(seed)
            if made is None:
                continue
            job, data, tables, choice, history = made
            want = tuple(clerk.told(job, data, columns_of(job)))
            told, every = run_all(job_text(job), tables, choice, history)
            self.assertTrue(all(rows == want for rows in every), seed)
            if told[0] == "answer":
                self.assertEqual(told[1], want, seed)
                answers += 1
            else:
                self.assertEqual(told[0], "lost")
                self.assertTrue(told[1])
                lost += 1
            before += len(every) > 1
            self.assertEqual(run_all(job_text(job), tables, choice, history), (told, every))
        self.assertGreater(answers, 400)
        self.assertGreater(lost, 20)
        self.assertGreater(before, 3)

    def test_an_end_as_long_as_a_copy_lies_somewhere(self):
        some = 0
        for seed in range(400):
            made = drawn_whole(seed)
            if made is None:
                continue
            job, data, tables, choice, history = made
            world = played(world_by(job_text(job), tables, choice), history_by(history))
            missing, most, worked = missing_blocks(world), most_worked(world), world.worked()
            had = world.middle.answer is not None
            self.assertLessEqual(finish(world), most_rounds(world.plan))
            self.assertLessEqual(world.worked() - worked, most)
            if missing == ():
                self.assertEqual(world.middle.answer, clerk.told(job, data, columns_of(job)))
                burnt = set(needed_tasks(world.plan)) - {file[:2] for file in files_in(world)}
                if not had and not burnt:
                    self.assertTrue(audited(world.plan, world.blocks, files_in(world), world.middle.answer))
                    some += 1
        self.assertGreater(some, 150)

    def test_improved_or_not_the_same_answers(self):
        for seed in range(300):
            made = drawn_whole(seed)
            if made is not None:
                job, data, tables, choice, _ = made
                tolds = [run_all(job_text(job), tables, changed(choice, 3, is_improved), "") for is_improved in (True, False)]
                self.assertEqual(tolds[0], tolds[1], seed)
                self.assertEqual(tolds[0][0], ("answer", tuple(clerk.told(job, data, columns_of(job)))))


if __name__ == "__main__":
    unittest.main()
