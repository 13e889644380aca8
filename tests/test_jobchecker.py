"""[7] checking: columns of steps, wrong jobs, rows of columns."""

import copy
import unittest

from countedonce.errors import BadJob, BadThing
from countedonce.jobchecker import are_rows, columns_of
from countedonce.jobreader import read_job
from countedonce.meaning import meaning
from tests import clerk, makers

HEAD = "read a(x int, t text, y int)\nread b(t text, z int)\n"
LOW, HIGH = -2 ** 63, 2 ** 63 - 1


def columns(line):
    """The columns of a step c behind two reads."""
    return columns_of(read_job(HEAD + line + "\nanswer c"))["c"]


def wrong(text):
    """The name of the first wrong step of a job's text, or None."""
    try:
        columns_of(read_job(text))
    except BadJob as error:
        return error.name
    return None


class Columns(unittest.TestCase):
    def test_read(self):
        told = columns_of(read_job(HEAD + "answer a"))
        self.assertEqual(told, {"a": (("x", "int"), ("t", "text"), ("y", "int")), "b": (("t", "text"), ("z", "int"))})
        self.assertEqual(list(told), ["a", "b"])

    def test_those_that_keep_them(self):
        whole = (("x", "int"), ("t", "text"), ("y", "int"))
        for line in ("c = filter a where x", "c = unlike a", "c = sort a by t up, x down first 3", "c = union a, a"):
            self.assertEqual(columns(line), whole)

    def test_map(self):
        self.assertEqual(columns("c = map a to x + 1 as t, t as x, length(t) as q, \"w\" as w, y"),
                         (("t", "int"), ("x", "text"), ("q", "int"), ("w", "text"), ("y", "int")))

    def test_fold(self):
        self.assertEqual(
            columns("c = fold a by t, x: count() as n, sum(x) as s, least(t) as l, greatest(t) as g, least(y) as i, "
                    "greatest(length(t)) as h, mean(x) as m, unlike(t) as u, unlike(x) as v"),
            (("t", "text"), ("x", "int"), ("n", "int"), ("s", "int"), ("l", "text"), ("g", "text"), ("i", "int"),
             ("h", "int"), ("m", "int"), ("u", "int"), ("v", "int")))
        self.assertEqual(columns("c = fold a: count() as x"), (("x", "int"),))

    def test_join(self):
        self.assertEqual(columns("c = join a, b by t"), (("t", "text"), ("x", "int"), ("y", "int"), ("z", "int")))
        self.assertEqual(columns("c = join b, a by t"), (("t", "text"), ("z", "int"), ("x", "int"), ("y", "int")))
        self.assertEqual(columns("c = join a, a by y, x, t"), (("y", "int"), ("x", "int"), ("t", "text")))

    def test_kinds_of_expressions(self):
        for told, kind in (("x", "int"), ("t", "text"), ("5", "int"), ("\"q\"", "text"), ("x mod y", "int"),
                           ("t = \"q\"", "int"), ("t < t", "int"), ("x >= y", "int"), ("not x", "int"), ("-x", "int"),
                           ("length(t)", "int"), ("length(\"q\")", "int"), ("x and y or not x", "int"),
                           ("(t = t) + (t != t)", "int")):
            self.assertEqual(columns("c = map a to " + told + " as q"), (("q", kind),))

    def test_made_jobs(self):
        for seed in range(300):
            job, told = makers.job(makers.source(seed))
            self.assertEqual(columns_of(job), told)


class Wrong(unittest.TestCase):
    def is_wrong(self, *lines):
        for line in lines:
            name = line.split()[0]
            if name == "read":
                name = line.split()[1].split("(")[0]
            self.assertEqual(wrong(HEAD + line + "\nanswer a"), name, line)

    def test_told_ahead(self):
        self.is_wrong("a = unlike b", "read a(x int)", "b = filter a where x")
        self.assertEqual(wrong(HEAD + "c = unlike a\nc = unlike b\nanswer a"), "c")

    def test_an_input_that_is_no_step_ahead(self):
        self.is_wrong("c = unlike c", "c = unlike d", "c = filter d where 1", "c = map d to 1 as x",
                      "c = fold d: count() as n", "c = join a, d by t", "c = join d, a by t", "c = union a, d",
                      "c = union d, a", "c = sort d by x up first 1")
        self.assertEqual(wrong(HEAD + "c = unlike d\nd = unlike a\nanswer c"), "c")

    def test_two_columns_of_one_name(self):
        self.is_wrong("read c(x int, x int)", "read c(x int, t text, x text)", "c = map a to x, x",
                      "c = map a to x as y, y", "c = fold a by t: count() as t", "c = fold a: count() as n, sum(x) as n",
                      "c = fold a by t, x, t: count() as n", "c = join a, a by t", "c = join a, a by x, t")

    def test_a_column_that_is_not_there(self):
        self.is_wrong("c = filter a where z", "c = map a to z", "c = map b to x as t", "c = fold a by z: count() as n",
                      "c = fold a: sum(z) as n", "c = fold a: least(z) as n", "c = fold a: unlike(z) as n",
                      "c = join a, b by x", "c = join a, b by z", "c = join a, b by q", "c = join b, a by t, x",
                      "c = sort a by z up first 1", "c = sort b by t up, x down first 1",
                      "c = filter a where x or 1 + (0 * -q)", "c = filter a where q = r", "c = filter a where q = q",
                      "c = map a to q < r as x", "c = map a to not q as x", "c = filter a where length(q) = 1")

    def test_kinds(self):
        self.is_wrong("c = filter a where x = t", "c = filter a where t < 1", "c = filter a where \"q\" != 1",
                      "c = filter a where t", "c = filter a where \"q\"", "c = filter a where length(x)",
                      "c = filter a where length(length(t))", "c = fold a: sum(t) as s", "c = fold a: mean(t) as s",
                      "c = fold a: mean(\"q\") as s", "c = map a to -t as q", "c = map a to not t as q",
                      "c = map a to length(5) as q")
        for op in ("+", "-", "*", "/", "mod", "and", "or"):
            self.is_wrong("c = map a to t " + op + " t as q", "c = map a to t " + op + " x as q",
                          "c = map a to x " + op + " t as q", "c = fold a: unlike(t " + op + " \"q\") as n")

    def test_keys(self):
        self.is_wrong("c = join a, b by t, t", "c = fold a by t, t: count() as n")
        self.assertEqual(wrong("read a(x int, t text)\nread b(x text, t text)\nc = join a, b by x, t\nanswer c"), "c")
        self.assertEqual(wrong("read a(x int, t text)\nread b(x text, t text)\nc = join a, b by t\nanswer c"), "c")

    def test_unions(self):
        for other in ("x int", "t text, x int", "x int, t int", "x int, t text, y int", "x int, u text"):
            self.assertEqual(wrong("read a(x int, t text)\nread b(" + other + ")\nc = union a, b\nanswer c"), "c")
        self.assertIsNone(wrong("read a(x int, t text)\nread b(x int, t text)\nc = union a, b\nanswer c"))

    def test_an_answer_that_is_no_step(self):
        self.assertEqual(wrong("answer c"), "c")
        self.assertEqual(wrong(HEAD + "answer x"), "x")
        self.assertEqual(wrong(HEAD + "c = unlike d\nanswer x"), "c")

    def test_the_first_wrong_one(self):
        self.assertEqual(wrong(HEAD + "c = unlike a\nd = filter c where t\ne = unlike f\nanswer g"), "d")
        self.assertEqual(wrong(HEAD + "c = unlike d\nc = unlike a\nanswer c"), "c")
        self.assertEqual(wrong("c = filter c where t\nread a(x int, x int)\nanswer c"), "c")

    def test_errors_tell_a_name_and_why(self):
        with self.assertRaises(BadJob) as caught:
            columns_of(read_job(HEAD + "c = filter a where t\nanswer c"))
        self.assertEqual(caught.exception.name, "c")
        self.assertIsInstance(caught.exception.why, str)

    def test_sorts_and_joins_that_are_right(self):
        self.assertIsNone(wrong(HEAD + "c = join a, b by t\nd = sort c by z down, t up first 0\nanswer d"))
        self.assertIsNone(wrong(HEAD + "c = map a to t, x as z\nd = join b, c by z, t\nanswer d"))


class Rows(unittest.TestCase):
    COLUMNS = (("x", "int"), ("t", "text"))

    def test_right_ones(self):
        for thing in ([], (), [(1, "p")], ((1, "p"), (1, "p")), [(LOW, ""), (HIGH, "\u20ac\n\"")]):
            self.assertIs(are_rows(thing, self.COLUMNS), True, thing)

    def test_wrong_ones(self):
        for row in (("p", 1), (1, 2), ("p", "q"), (1,), (), (1, "p", 2), [1, "p"], "1p", 5, None, (True, "p"),
                    (False, "p"), (1.0, "p"), (None, "p"), (HIGH + 1, "p"), (LOW - 1, "p"), (1, b"p"), (1, None),
                    (1, ("p",)), {1: "p"}):
            self.assertIs(are_rows([row], self.COLUMNS), False, row)
            self.assertIs(are_rows(((1, "p"), row), self.COLUMNS), False, row)
            self.assertIs(are_rows([row, (1, "p")], self.COLUMNS), False, row)

    def test_things_that_are_no_list_or_tuple(self):
        for thing in (None, 5, "", "ab", {}, set(), {(1, "p")}, {(1, "p"): 1}, iter([]), range(0), b"", True):
            self.assertIs(are_rows(thing, self.COLUMNS), False, thing)


class Facts(unittest.TestCase):
    def test_a_taken_job_never_goes_wrong_on_rows_of_its_kinds(self):
        for seed in range(300):
            rng = makers.source(seed)
            job, told = makers.job(rng)
            data = makers.data(rng, job)
            if max([len(rows) for rows in clerk.all_rows(job, data, told).values()]) <= 1000:
                self.assertTrue(are_rows(meaning(job, data), columns_of(job)[job[1]]))

    def test_arguments_are_not_changed(self):
        for seed in range(50):
            rng = makers.source(seed)
            job, _ = makers.job(rng)
            data = makers.data(rng, job)
            before = copy.deepcopy((job, data))
            self.assertEqual(columns_of(job), columns_of(job))
            try:
                meaning(job, data)
            except BadThing:
                self.fail("rows of the kinds told")
            self.assertEqual((job, data), before)


if __name__ == "__main__":
    unittest.main()
