"""[11] meaning, [1] the plain meaning of a job."""

import copy
import unittest

from countedonce.errors import BadThing
from countedonce.jobreader import read_job
from countedonce.meaning import meaning
from tests import clerk, makers

LOW, HIGH = -2 ** 63, 2 ** 63 - 1
ROWS = [(1, "p"), (5, "q"), (2, "p"), (3, "q"), (9, "p"), (2, "p")]
OTHERS = [("p", 7), ("q", 8), ("p", 6), ("r", 5), ("p", 7)]
HEAD = "read a(x int, t text)\nread b(t text, z int)\n"

PAGES = """read visits(who text, page text, seconds int)
read people(who text, city text)
long = filter visits where seconds > 10
both = join long, people by who
pages = fold both by page: mean(seconds) as usual, unlike(city) as cities
best = sort pages by usual down, page up first 2
answer best
"""


def told(lines, rows=None, others=None):
    """The rows of the step c behind two reads."""
    data = {"a": ROWS if rows is None else rows, "b": OTHERS if others is None else others}
    return meaning(read_job(HEAD + lines + "\nanswer c"), data)


class Steps(unittest.TestCase):
    def test_read(self):
        job = read_job(HEAD + "answer a")
        self.assertEqual(meaning(job, {"a": ROWS}), sorted(ROWS))
        self.assertEqual(meaning(job, {"a": tuple(ROWS)}), sorted(ROWS))

    def test_filter(self):
        self.assertEqual(told("c = filter a where x > 2"), [(3, "q"), (5, "q"), (9, "p")])
        self.assertEqual(told("c = filter a where x - 2"), [(1, "p"), (3, "q"), (5, "q"), (9, "p")])
        self.assertEqual(told("c = filter a where 0 - x"), sorted(ROWS))
        self.assertEqual(told("c = filter a where 0"), [])

    def test_map(self):
        self.assertEqual(told("c = map a to t, x * 2 as y, \"w\" as w"),
                         [("p", 2, "w"), ("p", 4, "w"), ("p", 4, "w"), ("p", 18, "w"), ("q", 6, "w"), ("q", 10, "w")])
        self.assertEqual(told("c = map a to 1 as y"), [(1,)] * 6)
        self.assertEqual(told("c = map a to x + 1 as y", [(HIGH, "p")]), [(LOW,)])

    def test_fold(self):
        self.assertEqual(
            told("c = fold a by t: count() as n, sum(x) as s, least(x) as l, greatest(t) as g, mean(x) as m, "
                 "unlike(x) as u"),
            [("p", 4, 14, 1, "p", 3, 3), ("q", 2, 8, 3, "q", 4, 2)])

    def test_fold_by_several_keys_and_by_none(self):
        self.assertEqual(told("c = fold a by t, x: count() as n"),
                         [("p", 1, 1), ("p", 2, 2), ("p", 9, 1), ("q", 3, 1), ("q", 5, 1)])
        self.assertEqual(told("c = fold a by x, t: count() as n")[1], (2, "p", 2))
        self.assertEqual(told("c = fold a: count() as n, sum(x) as s"), [(6, 22)])
        self.assertEqual(told("c = fold a: mean(0 - x) as m"), [(-4,)])

    def test_sums_and_means_wrap(self):
        rows = [(HIGH, "p"), (1, "p"), (HIGH, "q"), (HIGH, "q")]
        self.assertEqual(told("c = fold a by t: sum(x) as s, mean(x) as m", rows),
                         [("p", LOW, LOW // 2), ("q", -2, -1)])

    def test_join_of_several_rows_a_side(self):
        self.assertEqual(told("c = join a, b by t"),
                         sorted([(t, x, z) for x, t in ROWS for s, z in OTHERS if s == t]))
        self.assertEqual(len(told("c = join a, b by t")), 4 * 3 + 2)
        self.assertEqual(told("c = join b, a by t"),
                         sorted([(t, z, x) for x, t in ROWS for s, z in OTHERS if s == t]))

    def test_join_by_several_keys_and_with_itself(self):
        self.assertEqual(told("d = map b to t, z - 5 as x, z\nc = join a, d by x, t"),
                         [(1, "p", 6), (2, "p", 7), (2, "p", 7), (2, "p", 7), (2, "p", 7), (3, "q", 8)])
        self.assertEqual(told("c = join a, a by t, x"),
                         [("p", 1), ("p", 2), ("p", 2), ("p", 2), ("p", 2), ("p", 9), ("q", 3), ("q", 5)])

    def test_union(self):
        self.assertEqual(told("c = union a, a"), sorted(ROWS * 2))
        self.assertEqual(told("d = filter a where x = 2\nc = union a, d"), sorted(ROWS + [(2, "p")] * 2))

    def test_unlike(self):
        self.assertEqual(told("c = unlike a"), [(1, "p"), (2, "p"), (3, "q"), (5, "q"), (9, "p")])
        self.assertEqual(told("d = union a, a\ne = map d to t\nc = unlike e"), [("p",), ("q",)])

    def test_sort(self):
        self.assertEqual(told("c = sort a by x down first 3"), [(9, "p"), (5, "q"), (3, "q")])
        self.assertEqual(told("c = sort a by t down, x up first 4"), [(3, "q"), (5, "q"), (1, "p"), (2, "p")])
        self.assertEqual(told("c = sort a by t up, x down first 3"), [(9, "p"), (2, "p"), (2, "p")])
        self.assertEqual(told("c = sort a by x up first 100"), sorted(ROWS))

    def test_sort_goes_by_the_whole_row_up_where_the_columns_are_alike(self):
        self.assertEqual(told("c = sort a by t down first 5"), [(3, "q"), (5, "q"), (1, "p"), (2, "p"), (2, "p")])
        self.assertEqual(told("c = sort a by t up first 2"), [(1, "p"), (2, "p")])
        rows = [(2, "b"), (2, "a"), (1, "z"), (2, "c")]
        self.assertEqual(told("c = sort a by x down first 2", rows), [(2, "a"), (2, "b")])

    def test_a_sort_that_is_not_the_answer_keeps_its_first_rows(self):
        self.assertEqual(told("d = sort a by x down first 2\nc = unlike d"), [(5, "q"), (9, "p")])
        self.assertEqual(told("d = sort a by x down first 2\nc = filter d where x < 9"), [(5, "q")])
        self.assertEqual(told("d = sort a by x down first 3\nc = sort d by x up first 1"), [(3, "q")])

    def test_a_read_or_sort_behind_the_answer_plays_no_part(self):
        self.assertEqual(told("c = unlike a\nd = sort c by x down first 1"),
                         [(1, "p"), (2, "p"), (3, "q"), (5, "q"), (9, "p")])

    def test_no_rows(self):
        for line in ("c = filter a where 1", "c = map a to 1 as y", "c = fold a by t: count() as n",
                     "c = fold a: count() as n, mean(x) as m", "c = join a, b by t", "c = join a, a by t, x",
                     "c = union a, a", "c = unlike a", "c = sort a by x up first 3"):
            self.assertEqual(told(line, [], []), [], line)
        self.assertEqual(told("c = join a, b by t", ROWS, []), [])
        self.assertEqual(told("c = join a, b by t", [], OTHERS), [])

    def test_a_table_that_lacks_has_no_rows(self):
        job = read_job(HEAD + "c = join a, b by t\nd = fold a: count() as n\nanswer d")
        self.assertEqual(meaning(job, {"a": ROWS}), [(6,)])
        self.assertEqual(meaning(job, {"b": OTHERS}), [])
        self.assertEqual(meaning(job, {}), [])
        self.assertEqual(meaning(job, {"a": ROWS, "z": 5}), [(6,)])
        self.assertEqual(meaning(job, {"a": ROWS, "c": 5, "d": [(7,)]}), [(6,)])


class Bags(unittest.TestCase):
    def test_the_order_of_the_given_rows_plays_no_part(self):
        for seed in range(200):
            rng = makers.source(seed)
            job, columns = makers.job(rng)
            data = makers.data(rng, job)
            if max([len(rows) for rows in clerk.all_rows(job, data, columns).values()]) > 500:
                continue
            want = meaning(job, data)
            self.assertEqual(meaning(job, {name: rows[::-1] for name, rows in data.items()}), want)
            self.assertEqual(meaning(job, {name: tuple(rng.sample(rows, len(rows)))
                                           for name, rows in data.items()}), want)

    def test_like_the_clerk(self):
        some = 0
        for seed in range(600):
            rng = makers.source(seed)
            job, columns = makers.job(rng)
            data = makers.data(rng, job)
            if max([len(rows) for rows in clerk.all_rows(job, data, columns).values()]) <= 1000:
                want = clerk.told(job, data, columns)
                some += len(want) > 1
                got = meaning(job, data)
                self.assertEqual(got, want)
                self.assertIsInstance(got, list)
        self.assertGreater(some, 100)

    def test_arguments_are_not_changed_and_the_answer_is_a_new_list(self):
        for line in ("c = union a, a", "c = sort a by x up first 9", "c = unlike a"):
            data = {"a": list(ROWS), "b": list(OTHERS)}
            before = copy.deepcopy(data)
            job = read_job(HEAD + line + "\nanswer c")
            got = meaning(job, data)
            got.append("mine")
            self.assertEqual(data, before)
            self.assertEqual(meaning(job, data), got[:-1])
        data = {"a": list(ROWS)}
        meaning(read_job(HEAD + "answer a"), data).append("mine")
        self.assertEqual(data, {"a": ROWS})


class Wrong(unittest.TestCase):
    def thing(self, data, text=HEAD + "c = unlike a\nanswer c"):
        with self.assertRaises(BadThing) as caught:
            meaning(read_job(text), data)
        return caught.exception.thing

    def test_rows_of_other_kinds(self):
        for rows in ([("p", 1)], [(1,)], [(1, "p", 2)], [[1, "p"]], None, "ab", {(1, "p"): 1}, [(True, "p")],
                     [(2 ** 63, "p")], [(1, "p"), (1, 1)], 5):
            self.assertEqual(self.thing({"a": rows}), "a")

    def test_the_first_one_in_the_order_of_the_steps(self):
        wrong = [(1, 2, 3)]
        self.assertEqual(self.thing({"b": wrong, "a": wrong}), "a")
        self.assertEqual(self.thing({"b": wrong, "a": ROWS}), "b")
        self.assertEqual(self.thing({"b": wrong}), "b")
        text = "read b(t text)\nc = unlike b\nread a(x int)\nanswer a"
        self.assertEqual(self.thing({"a": wrong, "b": wrong}, text), "b")
        self.assertEqual(self.thing({"a": wrong, "b": []}, text), "a")


class Pages(unittest.TestCase):
    def test_the_two_pages_on_which_people_stay_longest(self):
        visits = [("ann", "home", 30), ("ann", "home", 5), ("bo", "home", 20), ("bo", "news", 40), ("cy", "news", 21),
                  ("cy", "help", 25), ("cy", "help", 10), ("di", "shop", 25), ("ed", "shop", 900)]
        people = [("ann", "rome"), ("bo", "oslo"), ("cy", "oslo"), ("di", "rome"), ("di", "bonn")]
        # home: 30 and 20; news: 40 and 21, 30 rounded down; help: 25; shop: 25 twice, as di lives in two cities.
        self.assertEqual(meaning(read_job(PAGES), {"visits": visits, "people": people}),
                         [("news", 30, 1), ("help", 25, 1)])
        more = visits + [("di", "home", 26)]
        # home now is 30, 20 and 26 twice: 25, rounded down; of pages alike the first name stands first.
        self.assertEqual(meaning(read_job(PAGES), {"visits": more, "people": people}),
                         [("news", 30, 1), ("help", 25, 1)])
        self.assertEqual(meaning(read_job(PAGES.replace("first 2", "first 9")), {"visits": more, "people": people}),
                         [("news", 30, 1), ("help", 25, 1), ("home", 25, 3), ("shop", 25, 2)])
        self.assertEqual(meaning(read_job(PAGES), {}), [])

    def test_the_cakes(self):
        text = "read eaten(who text, cakes int)\nsums = fold eaten by who: sum(cakes) as many\nanswer sums"
        self.assertEqual(meaning(read_job(text), {"eaten": [("ann", 2), ("bo", 1), ("ann", 3), ("bo", 0)]}),
                         [("ann", 5), ("bo", 1)])


if __name__ == "__main__":
    unittest.main()
