"""[13] papers: which are let by, where others are wrong, and papers that make jobs better."""

import copy
import unittest

from countedonce.errors import BadJob, BadPaper
from countedonce.jobchecker import columns_of
from countedonce.jobreader import read_job
from countedonce.jobwriting import job_text
from countedonce.judge import improved, judged
from countedonce.meaning import meaning
from countedonce.rules import applied
from tests import clerk, makers

HEAD = "read a(x int, t text, y int)\nread b(t text, z int)\n"
LINES = "m = map a to x + y as v, t\nf = filter m where v > 2\ng = filter f where t != \"\"\nc = unlike g"
DATA = {"a": [(1, "p", 4), (5, "q", 0), (2, "p", 2), (3, "q", 3), (9, "", -1), (2, "p", 2)],
        "b": [("p", 7), ("q", 8), ("p", 0), ("r", 5)]}
X = ("column", "x")


def job(lines, answer="c"):
    return read_job(HEAD + lines + "\nanswer " + answer)


def at(told, paper):
    """The number of the row that is wrong, or None."""
    try:
        judged(told, paper)
    except BadPaper as error:
        return error.at
    return None


def broad(many):
    """An expression of so many, not deep."""
    if many == 1:
        return X
    if many % 2 == 0:
        return ("minus", broad(many - 1))
    half = many // 4 * 2 + 1
    return ("two", "+", broad(half), broad(many - 1 - half))


def deep(many):
    """An expression of so many within one another."""
    told = X
    for _ in range(many - 1):
        told = ("minus", told)
    return told


class Judged(unittest.TestCase):
    def test_one_row_after_the_other(self):
        told = job(LINES)
        paper = (("and", "g"), ("drop", "f"), ("past map", "g"), ("drop", "m"))
        want = told
        for rule, name in paper:
            want = applied(want, rule, name)
        self.assertEqual(judged(told, paper), want)
        self.assertEqual([step[1] for step in want[0]], ["read", "read", "filter", "map", "unlike"])
        self.assertEqual(meaning(want, DATA), meaning(told, DATA))

    def test_no_row(self):
        self.assertEqual(judged(job(LINES), ()), job(LINES))

    def test_arguments_are_not_changed(self):
        told = job(LINES)
        paper = (("and", "g"), ("drop", "f"))
        before = copy.deepcopy((told, paper))
        self.assertEqual(judged(told, paper), judged(told, paper))
        self.assertEqual((told, paper), before)

    def test_what_is_no_such_pair(self):
        right = ("and", "g")
        for row in ((), ("and",), ("and", "g", "g"), ["and", "g"], "and", "ag", None, 5, ("and", 5), (5, "g"),
                    (None, None), (["and"], "g"), ("and", ["g"]), ({}, {}), (("and", "g"),), {"and": "g"}, b"ag",
                    ("and", b"g"), ("nothing", "g"), ("", ""), ("And", "g")):
            self.assertEqual(at(job(LINES), (row,)), 0, row)
            self.assertEqual(at(job(LINES), (right, row)), 1, row)
            self.assertEqual(at(job(LINES), (row, row)), 0, row)

    def test_what_does_not_hold(self):
        for row in (("and", "f"), ("past map", "g"), ("drop", "g"), ("drop", "z"), ("maps", "m"), ("same", "m"),
                    ("narrow", "c"), ("past fold", "f"), ("past join", "f"), ("past union", "f"), ("past unlike", "c")):
            self.assertEqual(at(job(LINES), (row,)), 0, row)
        self.assertEqual(at(job(LINES), (("and", "g"), ("drop", "f"), ("and", "g"), ("drop", "f"))), 2)
        self.assertEqual(at(job(LINES), (("and", "g"), ("drop", "f"), ("drop", "f"))), 2)

    def test_bad_job_first_of_all(self):
        for lines in ("c = filter a where t", "c = unlike d", "c = unlike a\nc = unlike a"):
            for paper in ((), (("drop", "z"),), (5,), ((),)):
                with self.assertRaises(BadJob) as caught:
                    judged(job(lines), paper)
                self.assertEqual(caught.exception.name, "c")


def chain(many, lines, answer="c"):
    """A job of so many steps, with some lines at its end."""
    more = many - 2 - len(lines.split("\n"))
    return job("\n".join(["u" + str(n) + " = unlike a" for n in range(more)] + [lines]), answer)


class Bounds(unittest.TestCase):
    def test_150_steps(self):
        lines = "u = union a, a\nc = filter u where x"
        self.assertEqual(len(judged(chain(148, lines), (("past union", "c"),))[0]), 150)
        self.assertEqual(at(chain(149, lines), (("past union", "c"),)), 0)
        self.assertEqual(at(chain(149, lines), (("drop", "u0"), ("past union", "c"))), None)
        self.assertEqual(at(chain(150, lines), (("drop", "u0"), ("past union", "c"), ("drop", "u1"))), 1)
        self.assertEqual(len(judged(chain(151, lines), (("drop", "u0"),))[0]), 150)
        self.assertEqual(at(chain(152, lines), (("drop", "u0"), ("drop", "u1"))), 0)

    def filters(self, one, other):
        return ((("a", "read", (), (("x", "int"),)), ("f", "filter", ("a",), one), ("c", "filter", ("f",), other)), "c")

    def maps(self, one, others):
        steps = (("a", "read", (), (("x", "int"),)), ("m", "map", ("a",), ((one, "x"),)),
                 ("c", "map", ("m",), tuple([(told, "x" + str(n)) for n, told in enumerate(others)])))
        return (steps, "c")

    def test_how_the_tests_make_them(self):
        def size(told):
            return 1 + sum([size(part) for part in told[1:] if isinstance(part, tuple)])
        for many in range(1, 90):
            self.assertEqual(size(broad(many)), many)
            self.assertEqual(size(deep(many)), many)

    def test_80_in_a_filter(self):
        for one, other in ((40, 39), (78, 1), (1, 78)):
            self.assertIsNone(at(self.filters(broad(one), broad(other)), (("and", "c"),)))
        for one, other in ((40, 40), (79, 1), (1, 79), (80, 80)):
            self.assertEqual(at(self.filters(broad(one), broad(other)), (("and", "c"),)), 0)

    def test_80_in_an_expression_of_a_map(self):
        self.assertIsNone(at(self.maps(broad(79), (("minus", X),)), (("maps", "c"),)))
        self.assertEqual(at(self.maps(broad(80), (("minus", X),)), (("maps", "c"),)), 0)
        self.assertIsNone(at(self.maps(broad(39), (("minus", ("two", "*", X, X)), X)), (("maps", "c"),)))
        self.assertEqual(at(self.maps(broad(40), (X, ("two", "*", X, X))), (("maps", "c"),)), 0)

    def test_40_within_one_another(self):
        self.assertIsNone(at(self.filters(deep(39), deep(39)), (("and", "c"),)))
        self.assertEqual(at(self.filters(deep(40), X), (("and", "c"),)), 0)
        self.assertEqual(at(self.filters(X, deep(40)), (("and", "c"),)), 0)
        self.assertIsNone(at(self.maps(deep(20), (X, deep(21))), (("maps", "c"),)))
        self.assertEqual(at(self.maps(deep(20), (X, deep(22))), (("maps", "c"),)), 0)

    def test_250_in_all_three_counted_more_for_each(self):
        def all_of(sizes):
            return at(self.maps(X, [broad(size) for size in sizes]), (("maps", "c"),))
        for right, wrong in (((80, 80, 80), (80, 80, 80, 1)), ((80, 80, 77, 1), (80, 80, 78, 1)),
                             ((47,) * 5, (48, 47, 47, 47, 47)), ((22,) * 10, (22,) * 9 + (23,)),
                             ((1,) * 61 + (3,), (1,) * 61 + (4,)), ((1,) * 62, (1,) * 63)):
            self.assertLessEqual(sum(right) + 3 * len(right), 250)
            self.assertGreater(sum(wrong) + 3 * len(wrong), 250)
            self.assertIsNone(all_of(right), right)
            self.assertEqual(all_of(wrong), 0, wrong)

    def test_folds_are_not_bounded(self):
        folds = tuple([("sum", broad(90), "s" + str(n)) for n in range(10)])
        told = ((("a", "read", (), (("x", "int"), ("y", "int"))), ("c", "fold", ("a",), (("x",), folds))), "c")
        self.assertIsNone(at(told, (("narrow", "c"),)))

    def test_filters_and_maps_are_bounded_each_by_itself(self):
        told = self.filters(broad(80), broad(80))
        steps = told[0] + tuple([("g" + str(n), "filter", ("a",), broad(80)) for n in range(5)])
        self.assertIsNone(at((steps + (("h", "unlike", ("a",), ()),), "c"), (("drop", "h"),)))

    def test_steps_that_a_rule_leaves_as_they_are_count(self):
        columns = tuple([(X, "x" + str(n)) for n in range(63)])
        more = (("m", "map", ("a",), columns), ("u", "unlike", ("m",), ()), ("h", "unlike", ("a",), ()))
        told = (self.filters(X, X)[0] + more, "c")
        self.assertEqual(at(told, (("drop", "h"),)), 0)
        self.assertEqual(at(told, ()), None)
        more = (("m", "map", ("a",), columns[1:]), ("u", "unlike", ("m",), ()), ("h", "unlike", ("a",), ()))
        self.assertIsNone(at((self.filters(X, X)[0] + more, "c"), (("drop", "h"),)))

    def test_what_is_let_by_can_be_told_as_text(self):
        for told in (self.maps(X, [broad(22)] * 10), self.maps(X, [X] * 62), self.filters(deep(39), deep(39)),
                     self.filters(broad(40), broad(39))):
            made = judged(told, ((("maps", "c") if told[0][1][1] == "map" else ("and", "c")),))
            self.assertEqual(read_job(job_text(made)), made)


class Improved(unittest.TestCase):
    def test_a_paper_that_is_let_by(self):
        for lines in (LINES, "c = filter a where x", "c = fold a by t: count() as n",
                      "j = join a, b by t\nf = filter j where z > 0\nc = fold f by t: sum(x) as s",
                      "u = union a, a\nv = unlike u\nf = filter v where x\ng = filter f where y\nc = map g to t"):
            paper = improved(job(lines))
            self.assertIsInstance(paper, tuple)
            self.assertLessEqual(len(paper), 60)
            better = judged(job(lines), paper)
            self.assertEqual(meaning(better, DATA), meaning(job(lines), DATA))

    def test_filters_come_ahead_and_maps_become_one(self):
        better = judged(job(LINES), improved(job(LINES)))
        self.assertEqual([step[1] for step in better[0]], ["read", "read", "filter", "map", "unlike"])
        lines = "j = join a, b by t\nf = filter j where z > 0 and t != \"\"\nm = map f to x, t\nc = map m to x + 1 as y"
        better = judged(job(lines), improved(job(lines)))
        self.assertEqual([step[1] for step in better[0]], ["read", "read", "filter", "join", "map"])

    def test_nothing_to_do(self):
        self.assertEqual(improved(job("c = unlike a")), ())

    def test_wrong_rows_are_told_as_before(self):
        lines = "d = unlike b\nc = unlike a"
        better = judged(job(lines), improved(job(lines)))
        self.assertEqual([step[0] for step in better[0]], ["a", "b", "c"])

    def test_made_jobs(self):
        some = 0
        for seed in range(400):
            rng = makers.source(seed)
            told, columns = makers.job(rng, 20)
            data = makers.data(rng, told)
            if max([len(rows) for rows in clerk.all_rows(told, data, columns).values()]) > 300:
                continue
            before = copy.deepcopy(told)
            paper = improved(told)
            self.assertEqual(told, before)
            self.assertEqual(improved(told), paper)
            self.assertLessEqual(len(paper), 60)
            some += len(paper) > 3
            better = judged(told, paper)
            self.assertEqual(columns_of(better)[told[1]], columns[told[1]])
            self.assertEqual(meaning(better, data), clerk.told(told, data, columns))
        self.assertGreater(some, 50)

    def test_at_most_60_rows(self):
        lines = ["u0 = union a, a"] + ["u{1} = union u{0}, u{0}".format(n, n + 1) for n in range(24)]
        told = job("\n".join(lines) + "\nc = filter u24 where x > 1")
        paper = improved(told)
        self.assertEqual(len(paper), 60)
        self.assertEqual(meaning(judged(told, paper), {}), [])

    def test_long_jobs(self):
        steps = ["u0 = union a, a"]
        for n in range(1, 28):
            steps.append("u" + str(n) + " = " + ("union u{0}, u{0}" if n % 7 == 0 else "unlike u{0}").format(n - 1))
        told = job("\n".join(steps) + "\nc = filter u27 where x > 1")
        paper = improved(told)
        self.assertLessEqual(len(paper), 60)
        self.assertEqual(meaning(judged(told, paper), DATA), meaning(told, DATA))


if __name__ == "__main__":
    unittest.main()
