"""[8] writing: a job's text is read as the job."""

import unittest

from countedonce.jobreader import read_job
from countedonce.jobwriting import job_text
from tests import makers

LINES = (
    "read a(x int, t text)",
    "b = filter a where x > 1 and not (t = \"q # (\" or x - (1 - x) != 3)",
    "c = map b to x, t as u, (t) as t, -x * 2 as y",
    "d = fold c by t, u: count() as n, sum(x + y) as s, least(t) as l, greatest(t) as g, mean(x) as m, unlike(u) as v",
    "e = fold c: count() as n",
    "f = join a, b by t, x",
    "g = union a, b",
    "h = unlike g",
    "i = sort h by x down, t up first 5",
    "j = sort h by t up first 0",
    "answer i")


class Writing(unittest.TestCase):
    def test_each_kind_of_step(self):
        job = read_job("\n".join(LINES))
        self.assertEqual(len(job[0]), len(LINES) - 1)
        self.assertEqual(read_job(job_text(job)), job)
        for line in LINES[:-1]:
            name = line.replace("read ", "").replace("(", " ").split()[0]
            alone = read_job(line + "\nanswer " + name)
            self.assertEqual(read_job(job_text(alone)), alone)

    def test_an_answer_alone(self):
        self.assertEqual(read_job(job_text(((), "c"))), ((), "c"))

    def test_made_jobs(self):
        for seed in range(500):
            job, _ = makers.job(makers.source(seed))
            text = job_text(job)
            self.assertIsInstance(text, str)
            self.assertEqual(read_job(text), job)

    def test_lines_of_just_300_pieces(self):
        for line in ("b = map a to " + ", ".join(["x" + str(n) for n in range(148)]),
                     "b = map a to " + ", ".join(["x" + str(n) + " as y" for n in range(73)]) + ", x, y",
                     "b = map a to " + ", ".join(["x + 1 * -x as y"] * 32) + ", x, y as z",
                     "b = fold a by " + ", ".join(["x"] * 141) + ": count() as n, sum(x) as s, mean(x) as m",
                     "b = join a, c by " + ", ".join(["x"] * 147),
                     "b = sort a by " + ", ".join(["x up"] * 97) + " first 5"):
            job = read_job(line + "\nanswer b")
            self.assertEqual(read_job(job_text(job)), job)

    def test_the_largest_expressions(self):
        deep = "x"
        for at in range(39):
            deep = ("(" + deep + ") - x", "x - (" + deep + ")", "-(" + deep + ")", "not (" + deep + ")")[at % 4]
        broad = " * ".join(["(x + x - (x + x))"] * 10)
        for text in (deep, "not " + broad):
            job = read_job("b = map a to " + text + " as y, " + text + " as z\nanswer b")
            self.assertEqual(read_job(job_text(job)), job)


if __name__ == "__main__":
    unittest.main()
