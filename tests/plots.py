"""Jobs with plans of every kind of phase, for tests."""

from countedonce.blocks import blocks_of
from countedonce.jobchecker import columns_of
from countedonce.jobreader import read_job
from countedonce.plans import plan_of
from tests import clerk, makers

HEAD = "read a(x int, t text)\nread b(t text, z int)\n"
DATA = {
    "a": [(1, "p"), (5, "q"), (2, "p"), (3, "q"), (9, "p"), (2, "p"), (-4, "r"), (0, "p"), (7, ""), (7, "p")],
    "b": [("p", 7), ("q", 8), ("p", 6), ("s", 5), ("p", 7), ("q", -1)]}
FOLDS = "count() as n, sum(x) as s, least(x) as l, greatest(x * 2) as g, mean(x) as m, unlike(x) as u"

# The steps behind the two reads; the answer is c, where no other one is told.
JOBS = {
    "filter": "c = filter a where x > 2",
    "map": "c = map a to t, x + 1 as y",
    "fold": "c = fold a by t: " + FOLDS,
    "fold of texts": "c = fold a by x: least(t) as l, greatest(t) as g, unlike(t) as u, count() as n",
    "fold without keys": "c = fold a: " + FOLDS,
    "join": "c = join a, b by t",
    "join with itself": "c = join a, a by t, x",
    "union": "d = filter a where x < 3\nc = union a, d",
    "union with itself": "c = union a, a",
    "unlike": "d = union a, a\nc = unlike d",
    "sort": "c = sort a by t down, x up first 4",
    "sort of all": "c = sort a by t up, x down first 100",
    "sort in the middle": "d = sort a by x down first 5\nc = fold d by t: sum(x) as s",
    "sort behind a sort": "d = sort a by x down first 5\nc = sort d by t down first 3",
    "read": "d = unlike a\nanswer a",
    "left out": "c = filter a where 1\nd = unlike a\ne = join a, b by t",
    "several": "d = filter a where x\ne = join d, b by t\nf = fold e by t, z: sum(x) as s\ng = unlike f\n"
               "c = sort g by s down, t up first 3",
    "fold behind a fold": "d = fold a by t, x: count() as n\nc = fold d by t: sum(n) as s, greatest(x) as x",
}
HOT = {
    "fold": {"c": (("p",), ("q",), ("nobody",))},
    "fold of texts": {"c": ((7,), (2,), (3, 4))},
    "fold without keys": {"c": ((),)},
    "join": {"c": ()},
    "join with itself": {"c": ()},
    "sort in the middle": {"c": (("p",),)},
    "several": {"e": (), "f": (("p", 7),)},
    "fold behind a fold": {"c": (("p",),), "d": (("p", 2), ("q", 3))},
}


def job_of(name):
    text = JOBS[name]
    if "answer" not in text:
        text = text + "\nanswer c"
    return read_job(HEAD + text)


def planned(job, data, cuts, pieces, is_ahead, hows=None):
    """A plan, and its blocks."""
    return plan_of(job, cuts, pieces, is_ahead, hows), blocks_of(data, cuts)


def plots(cuts=({}, {"a": 2, "b": 3}, {"a": 14, "b": 1}), pieces=(1, 2, 5)):
    """All the jobs with several plans each: (name, job, data, plan, blocks)."""
    for name in JOBS:
        job = job_of(name)
        for cut in cuts:
            for many in pieces:
                for is_ahead in (True, False):
                    for hows in (None, HOT[name]) if name in HOT else (None,):
                        yield (name, job, DATA) + planned(job, DATA, cut, many, is_ahead, hows)


def random_plots(seeds, most=9):
    """Random jobs with random data and plans: (seed, job, data, plan, blocks)."""
    for seed in seeds:
        rng = makers.source(seed)
        job, columns = makers.job(rng, most)
        data = makers.data(rng, job)
        told = clerk.all_rows(job, data, columns)
        if max([len(rows) for rows in told.values()]) <= 300:
            cuts, pieces, is_ahead, hows = makers.choice(rng, job, told, columns)
            yield (seed, job, data) + planned(job, data, cuts, pieces, is_ahead, hows)


def answer(job, data):
    """What the patient clerk tells."""
    return clerk.told(job, data, columns_of(job))
