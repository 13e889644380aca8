"""[12] rules: what each one makes, where it does not hold, and that the meaning stays."""

import copy
import unittest

from countedonce.jobchecker import columns_of
from countedonce.jobreader import read_job
from countedonce.jobwriting import job_text
from countedonce.meaning import meaning
from countedonce.pieces import OWN_WORDS
from countedonce.rules import applied
from tests import clerk, makers

HEAD = "read a(x int, t text, y int)\nread b(t text, z int)\n"
RULES = ("and", "past map", "past join", "past fold", "past union", "past unlike", "maps", "narrow", "same", "drop")
DATA = {"a": [(1, "p", 4), (5, "q", 0), (2, "p", 2), (3, "q", 3), (9, "", -1), (2, "p", 2), (0, "q", 1)],
        "b": [("p", 7), ("q", 8), ("p", 0), ("r", 5), ("p", 7), ("q", -8)]}


def job(lines, answer="c"):
    return read_job(HEAD + lines + "\nanswer " + answer)


class Case(unittest.TestCase):
    def made(self, rule, lines, name="c", answer="c"):
        """The steps that a rule puts in the place of a step, checked to mean the same."""
        before = job(lines, answer)
        kept = copy.deepcopy(before)
        after = applied(before, rule, name)
        self.assertEqual(before, kept)
        self.assertEqual(after, applied(before, rule, name))
        if after is None:
            return None
        self.assertEqual(after[1], before[1])
        self.assertEqual(columns_of(after)[answer], columns_of(before)[answer])
        self.assertEqual(meaning(after, DATA), meaning(before, DATA))
        self.assertEqual(read_job(job_text(after)), after)
        return self.changed(before[0], after[0])

    def changed(self, before, after):
        """The steps that stand in after between those that both have at their beginning and end."""
        at = 0
        while at < min(len(before), len(after)) and before[at] == after[at]:
            at += 1
        end = 0
        while end < min(len(before), len(after)) - at and before[-1 - end] == after[-1 - end]:
            end += 1
        self.assertEqual(len(before) - at - end <= 1, True)
        return after[at:len(after) - end]

    def holds_not(self, rule, lines, name="c", answer="c"):
        self.assertIsNone(applied(job(lines, answer), rule, name), (rule, lines, name))


def expression(text):
    return read_job("b = filter a where " + text + "\nanswer b")[0][0][3]


class And(Case):
    def test_holds(self):
        made = self.made("and", "f = filter a where x > 1\nc = filter f where t = \"p\"")
        self.assertEqual(len(made), 1)
        self.assertEqual(made[0][:3], ("c", "filter", ("a",)))
        self.assertIn(made[0][3], (expression("x > 1 and t = \"p\""), expression("t = \"p\" and x > 1")))

    def test_ints_other_than_0_and_1(self):
        made = self.made("and", "f = filter a where x\nc = filter f where y")
        self.assertEqual(len(made), 1)

    def test_holds_for_the_second_of_three_and_where_the_first_is_used(self):
        lines = "f = filter a where x > 1\ng = filter f where y\nh = filter g where t != \"\"\nc = union h, f"
        self.assertEqual(self.made("and", lines, "h")[0][2], ("f",))
        self.assertEqual(self.made("and", lines, "g")[0][2], ("a",))
        self.holds_not("and", lines, "f")

    def test_holds_not(self):
        self.holds_not("and", "c = filter a where x")
        self.holds_not("and", "f = unlike a\nc = filter f where x")
        self.holds_not("and", "f = filter a where x\nc = unlike f")
        self.holds_not("and", "f = filter a where x\nc = filter f where x", "f")


class PastOne(Case):
    def test_past_map(self):
        made = self.made("past map", "m = map a to x + y as x, t as u\nc = filter m where x > 3 and length(u) = 1")
        self.assertEqual(len(made), 2)
        new = made[0][0]
        self.assertEqual(made, ((new, "filter", ("a",), expression("x + y > 3 and length(t) = 1")),
                                ("c", "map", (new,), ((expression("x + y"), "x"), (("column", "t"), "u")))))

    def test_past_map_without_columns_and_of_all_kinds(self):
        self.made("past map", "m = map a to 1 as q\nc = filter m where 1 + 1 > q")
        self.made("past map", "m = map a to x as y, y as x, t\nc = filter m where not (x < -y) or t = \"q\"")
        self.made("past map", "m = map b to t, z\nc = filter m where z mod 2")
        self.made("past map", "m = map a to 1 as q\nc = filter m where 0")

    def test_past_fold(self):
        made = self.made("past fold", "f = fold a by t, x: sum(y) as y\nc = filter f where x > 1 and t != \"q\"")
        new = made[0][0]
        self.assertEqual(made, ((new, "filter", ("a",), expression("x > 1 and t != \"q\"")),
                                ("c", "fold", (new,), (("t", "x"), (("sum", ("column", "y"), "y"),)))))
        self.made("past fold", "f = fold a by t: count() as n\nc = filter f where 0")
        self.made("past fold", "f = fold a by t: count() as n\nc = filter f where 1 = 1")
        self.made("past fold", "f = fold a: count() as n\nc = filter f where 0")

    def test_past_fold_holds_not_for_what_is_no_key(self):
        self.holds_not("past fold", "f = fold a by t: sum(x) as x\nc = filter f where x > 1")
        self.holds_not("past fold", "f = fold a by t: count() as n\nc = filter f where t = \"q\" or n > 1")
        self.holds_not("past fold", "f = fold a: count() as n\nc = filter f where n")

    def test_past_unlike(self):
        made = self.made("past unlike", "u = unlike a\nc = filter u where x > 1")
        new = made[0][0]
        self.assertEqual(made, ((new, "filter", ("a",), expression("x > 1")), ("c", "unlike", (new,), ())))


class PastTwo(Case):
    def test_past_join_on_the_one_side(self):
        for inputs, side in (("a, b", "a"), ("b, a", "a")):
            made = self.made("past join", "j = join " + inputs + " by t\nc = filter j where x > 1")
            new = made[0][0]
            names = tuple([new if name == side else name for name in inputs.split(", ")])
            self.assertEqual(made, ((new, "filter", (side,), expression("x > 1")), ("c", "join", names, ("t",))))
        made = self.made("past join", "j = join a, b by t\nc = filter j where z or t = \"p\"")
        self.assertEqual((made[0][1:3], made[1][2]), (("filter", ("b",)), ("a", made[0][0])))

    def test_past_join_on_both_sides(self):
        for told in ("t = \"p\"", "1", "0", "length(t) mod 2"):
            made = self.made("past join", "j = join a, b by t\nc = filter j where " + told)
            one, other = made[0][0], made[1][0]
            self.assertEqual(made, ((one, "filter", ("a",), expression(told)),
                                    (other, "filter", ("b",), expression(told)),
                                    ("c", "join", (one, other), ("t",))))
            self.assertNotEqual(one, other)

    def test_past_join_holds_not_where_no_side_has_all_columns(self):
        self.holds_not("past join", "j = join a, b by t\nc = filter j where x = z")
        self.holds_not("past join", "j = join b, a by t\nc = filter j where t = \"p\" or y and z")

    def test_past_join_with_itself(self):
        self.assertIsNotNone(self.made("past join", "j = join a, a by t, x, y\nc = filter j where x > 1"))
        self.assertIsNotNone(self.made("past join", "m = map a to t, x as v\nj = join a, m by t\nc = filter j where v"))

    def test_past_union(self):
        lines = "m = map a to t, x as z\nu = union b, m\nc = filter u where z > 1 or t = \"q\""
        made = self.made("past union", lines)
        one, other = made[0][0], made[1][0]
        told = expression("z > 1 or t = \"q\"")
        self.assertEqual(made, ((one, "filter", ("b",), told), (other, "filter", ("m",), told),
                                ("c", "union", (one, other), ())))
        self.assertIsNotNone(self.made("past union", "u = union a, a\nc = filter u where x"))
        self.assertIsNotNone(self.made("past union", "u = union a, a\nc = filter u where 1"))

    def test_each_past_rule_holds_at_its_own_steps_only(self):
        kinds = {"past map": "s = map a to x, t, y", "past fold": "s = fold a by x: count() as n",
                 "past join": "s = join a, b by t", "past union": "s = union a, a", "past unlike": "s = unlike a",
                 "and": "s = filter a where y", "none": "s = sort a by x up first 3"}
        for kind, line in kinds.items():
            lines = line + "\nc = filter s where x > 1"
            for rule in ("and", "past map", "past join", "past fold", "past union", "past unlike"):
                if rule == kind:
                    self.assertIsNotNone(self.made(rule, lines))
                else:
                    self.holds_not(rule, lines)
                self.holds_not(rule, lines, "s")
                self.holds_not(rule, lines, "a")
                self.holds_not(rule, line + "\nc = unlike s")
                self.holds_not(rule, line + "\nc = map s to x")
        for rule in RULES[:8]:
            self.holds_not(rule, "c = filter a where x")


class Maps(Case):
    def test_holds(self):
        made = self.made("maps", "m = map a to x + y as x, t as u\nc = map m to x * x as s, u, length(u) as x, 7 as k")
        self.assertEqual(len(made), 1)
        self.assertEqual(made[0][:3], ("c", "map", ("a",)))
        self.assertEqual(made[0][3], ((expression("(x + y) * (x + y)"), "s"), (("column", "t"), "u"),
                                      (expression("length(t)"), "x"), (("number", 7), "k")))

    def test_columns_that_change_their_names(self):
        self.made("maps", "m = map a to y as x, x as y\nc = map m to y as x, x as y, x - y as z")
        self.made("maps", "m = map a to -x as x\nc = map m to -x as x, not x as y")

    def test_holds_not(self):
        self.holds_not("maps", "m = map a to x\nc = filter m where x")
        self.holds_not("maps", "m = filter a where x\nc = map m to x")
        self.holds_not("maps", "m = map a to x\nc = map m to x", "m")
        self.holds_not("maps", "m = map a to x\nc = fold m: sum(x) as x")


class Narrow(Case):
    def test_holds(self):
        made = self.made("narrow", "c = fold a by t: count() as n, sum(x * x) as s")
        new = made[0][0]
        self.assertEqual(made, ((new, "map", ("a",), ((("column", "x"), "x"), (("column", "t"), "t"))),
                                ("c", "fold", (new,), (("t",), (("count", None, "n"), ("sum", expression("x * x"), "s"))))))

    def test_the_columns_stand_in_the_order_of_the_input(self):
        made = self.made("narrow", "c = fold a by y: greatest(x) as g")
        self.assertEqual([name for _, name in made[0][3]], ["x", "y"])
        made = self.made("narrow", "c = fold a by y, x: count() as n")
        self.assertEqual([name for _, name in made[0][3]], ["x", "y"])
        made = self.made("narrow", "c = fold a: unlike(length(t)) as g")
        self.assertEqual(made[0][3], ((("column", "t"), "t"),))

    def test_holds_not(self):
        self.holds_not("narrow", "c = fold a: count() as n")
        self.holds_not("narrow", "c = fold a: sum(1) as n, least(\"q\") as l")
        self.holds_not("narrow", "c = fold a by t: sum(x + y) as n")
        self.holds_not("narrow", "c = fold a by y, t, x: count() as n")
        self.holds_not("narrow", "c = map a to x")
        self.holds_not("narrow", "c = filter a where x")
        self.holds_not("narrow", "f = fold a by t: sum(x) as n\nc = unlike f")

    def test_holds_only_once(self):
        once = applied(job("c = fold a by t: count() as n"), "narrow", "c")
        self.assertIsNone(applied(once, "narrow", "c"))


class Same(Case):
    def steps(self, lines, name, answer="c"):
        before = job(lines, answer)
        after = applied(before, "same", name)
        if after is None:
            return None
        self.assertEqual(after[1], before[1])
        self.assertEqual(columns_of(after), columns_of(before))
        self.assertEqual(meaning(after, DATA), meaning(before, DATA))
        self.assertEqual(meaning(after, {"b": DATA["b"]}), meaning(before, {"b": DATA["b"]}))
        return after[0][2:]

    def test_holds(self):
        lines = "f = filter a where x\ng = filter a where x\nh = union g, g\ni = union f, g\nc = union h, i"
        self.assertEqual(self.steps(lines, "g"), job(lines.replace("g, g", "f, f").replace("f, g", "f, f"))[0][2:])

    def test_the_first_such_one_is_used(self):
        lines = "f = unlike a\ng = unlike a\nh = unlike a\nc = union h, g"
        self.assertEqual(self.steps(lines, "h"), job(lines.replace("h, g", "f, g"))[0][2:])
        self.assertEqual(self.steps(lines, "g"), job(lines.replace("h, g", "h, f"))[0][2:])
        self.assertIsNone(self.steps(lines, "f"))

    def test_the_answer_stays(self):
        lines = "f = unlike a\nc = unlike a\ng = filter c where x"
        self.assertEqual(self.steps(lines, "c"), job(lines.replace("r c", "r f"))[0][2:])

    def test_to_be_the_answer_is_no_use(self):
        self.assertIsNone(self.steps("f = unlike a\nc = unlike a", "c"))
        self.assertIsNone(self.steps("f = unlike a\ng = unlike a\nc = unlike b", "g"))

    def test_holds_not(self):
        self.assertIsNone(self.steps("f = unlike a\ng = unlike b\nd = map g to t\nc = unlike f", "g"))
        self.assertIsNone(self.steps("f = filter a where x\ng = filter a where x = 1\nc = union f, g", "g"))
        self.assertIsNone(self.steps("f = union a, a\nc = unlike f", "f"))
        self.assertIsNone(self.steps("f = join a, b by t\ng = join b, a by t\nc = unlike g", "g"))

    def test_two_tables_of_the_same_columns_are_not_the_same(self):
        text = "read a(x int)\nread b(x int)\nc = unlike b\nanswer c"
        for name in ("a", "b", "c"):
            self.assertIsNone(applied(read_job(text), "same", name))


class Drop(Case):
    def test_holds(self):
        lines = "f = unlike a\ng = filter f where x\nc = unlike b"
        after = applied(job(lines), "drop", "g")
        self.assertEqual(after, job("f = unlike a\nc = unlike b"))
        self.assertEqual(meaning(after, DATA), meaning(job(lines), DATA))
        after = applied(after, "drop", "f")
        self.assertEqual(after, job("c = unlike b"))
        after = applied(after, "drop", "a")
        self.assertEqual(after, read_job("read b(t text, z int)\nc = unlike b\nanswer c"))
        self.assertEqual(meaning(after, DATA), meaning(job(lines), DATA))

    def test_steps_behind_the_answer(self):
        self.assertEqual(applied(job("c = unlike b\nd = unlike c"), "drop", "d"), job("c = unlike b"))

    def test_holds_not(self):
        lines = "f = unlike a\ng = filter f where x\nc = unlike b"
        for name in ("c", "f", "a", "b"):
            self.holds_not("drop", lines, name)
        self.holds_not("drop", "c = unlike a\nd = unlike c")
        self.holds_not("drop", "d = join a, b by t\nc = unlike d", "b")


class All(Case):
    def test_names_that_are_no_step(self):
        lines = "f = filter a where x\nc = filter f where y\nd = unlike a\ne = unlike d"
        for rule in RULES:
            for name in ("", "z", "x", "C", "filter", "c "):
                self.holds_not(rule, lines, name)

    def test_words_that_are_no_rule(self):
        lines = "f = filter a where x\nc = filter f where y\nm = map c to x\nn = map m to x"
        for rule in ("", "or", "past", "past filter", "past sort", "past read", "And", "map", "past  map", "filter"):
            for name in ("a", "f", "c", "m", "n"):
                self.holds_not(rule, lines, name)

    def test_free_names(self):
        # Whatever names the steps have, new ones have others, with which the job can be told as text.
        for seed in range(60):
            rng = makers.source(seed)
            for rule, line in (("past union", "u = union a, a\nc = filter u where x"),
                               ("past join", "j = join a, b by t\nc = filter j where t = \"q\""),
                               ("narrow", "c = fold a by t: count() as n"),
                               ("past map", "m = map a to x\nc = filter m where x")):
                before = job(line)
                after = applied(before, rule, "c")
                for _ in range(5):
                    # New names of ahead are taken for other steps.
                    fresh = [step[0] for step in after[0] if step[0] not in [old[0] for old in before[0]]]
                    for name in fresh:
                        self.assertNotIn(name, OWN_WORDS)
                    before = (before[0] + ((rng.choice(fresh), "unlike", ("a",), ()),), before[1])
                    after = applied(before, rule, "c")
                    names = [step[0] for step in after[0]]
                    self.assertEqual(len(set(names)), len(names))
                    self.assertEqual(read_job(job_text(after)), after)
                    self.assertEqual(meaning(after, DATA), meaning(before, DATA))

    def test_made_jobs_mean_the_same(self):
        held = dict.fromkeys(RULES, 0)
        for seed in range(1200):
            rng = makers.source(seed)
            before, columns = makers.job(rng)
            tables = [makers.data(rng, before) for _ in range(2)]
            sizes = [len(rows) for data in tables for rows in clerk.all_rows(before, data, columns).values()]
            if max(sizes) > 300:
                continue
            wanted = [clerk.told(before, data, columns) for data in tables]
            for rule in RULES:
                for step in before[0]:
                    after = applied(before, rule, step[0])
                    if after is not None:
                        held[rule] += 1
                        self.assertEqual(columns_of(after)[before[1]], columns[before[1]])
                        self.assertEqual([meaning(after, data) for data in tables], wanted)
        for rule in RULES:
            self.assertGreater(held[rule], 5, rule)

    def test_new_steps_stand_right_ahead(self):
        for seed in range(300):
            before, _ = makers.job(makers.source(seed))
            for rule in RULES[:8]:
                for at, step in enumerate(before[0]):
                    after = applied(before, rule, step[0])
                    if after is not None:
                        more = len(after[0]) - len(before[0])
                        self.assertEqual(after[0][:at], before[0][:at])
                        self.assertEqual(after[0][at + more + 1:], before[0][at + 1:])
                        self.assertEqual(after[0][at + more][0], step[0])


if __name__ == "__main__":
    unittest.main()
