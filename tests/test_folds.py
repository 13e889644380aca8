"""[10] folds as states."""

import itertools
import unittest

from countedonce.folds import no_state, one_state, put_together, state_told
from tests import clerk, makers

LOW, HIGH = -2 ** 63, 2 ** 63 - 1
KINDS = ("count", "sum", "least", "greatest", "mean", "unlike")


def state(kind, values):
    told = no_state(kind)
    for value in values:
        told = put_together(kind, told, one_state(kind, value))
    return told


def given(kind, values):
    return [None] * len(values) if kind == "count" else list(values)


class States(unittest.TestCase):
    def test_of_no_rows(self):
        self.assertEqual([no_state(kind) for kind in KINDS], [0, 0, (), (), (0, 0), ()])

    def test_of_one_row(self):
        self.assertEqual(one_state("count", None), 1)
        self.assertEqual([one_state(kind, 5) for kind in KINDS[1:]], [5, (5,), (5,), (5, 1), (5,)])
        self.assertEqual([one_state(kind, "q") for kind in ("least", "greatest", "unlike")], [("q",)] * 3)

    def test_of_several_rows(self):
        for kind, values, told in (
                ("count", (None,) * 4, 4), ("sum", (1, 2, -5), -2), ("least", (3, 1, 2, 1), (1,)),
                ("greatest", (3, 1, 3, 2), (3,)), ("least", ("q", "p", ""), ("",)), ("greatest", ("q", "p", ""), ("q",)),
                ("mean", (3, 4, -9), (-2, 3)), ("unlike", (3, 1, 3, 2, 1), (1, 2, 3)),
                ("unlike", ("q", "", "q"), ("", "q"))):
            self.assertEqual(state(kind, values), told)

    def test_sums_wrap(self):
        self.assertEqual(put_together("sum", HIGH, 1), LOW)
        self.assertEqual(put_together("sum", LOW, -1), HIGH)
        self.assertEqual(put_together("mean", (HIGH, 2), (HIGH, 3)), (-2, 5))
        self.assertEqual(state("sum", (HIGH, HIGH, 1, 1, 1)), 1)
        self.assertEqual(state("mean", (LOW, LOW)), (0, 2))

    def test_what_they_tell(self):
        self.assertEqual(state_told("count", 3), 3)
        self.assertEqual(state_told("sum", -7), -7)
        self.assertEqual(state_told("least", ("q",)), "q")
        self.assertEqual(state_told("greatest", (0,)), 0)
        self.assertEqual(state_told("unlike", (1, 2, 3)), 3)
        self.assertEqual([state_told("mean", told) for told in ((9, 3), (7, 2), (-7, 2), (-1, 3), (0, 5), (LOW, 3))],
                         [3, 3, -4, -1, 0, LOW // 3])

    def test_no_state_changes_nothing(self):
        for kind in KINDS:
            for values in ((), (5,), (2, -1, 2)):
                told = state(kind, given(kind, values))
                self.assertEqual(put_together(kind, told, no_state(kind)), told)
                self.assertEqual(put_together(kind, no_state(kind), told), told)

    def test_any_order_and_any_groups(self):
        for kind in KINDS:
            for values in ((1, 2, 2, -3), (HIGH, HIGH, 1, LOW), ("q", "p", "q", "")):
                if isinstance(values[0], str) and kind in ("sum", "mean"):
                    continue
                want = state(kind, given(kind, values))
                for turned in itertools.permutations(values):
                    for at in range(5):
                        parts = [state(kind, given(kind, part)) for part in (turned[:at], turned[at:])]
                        self.assertEqual(put_together(kind, parts[0], parts[1]), want)
                    pairs = [state(kind, given(kind, turned[at:at + 2])) for at in (0, 2)]
                    self.assertEqual(put_together(kind, pairs[1], pairs[0]), want)

    def test_like_the_clerk(self):
        for seed in range(200):
            rng = makers.source(seed)
            values = [rng.choice(makers.INTS) for _ in range(rng.randint(1, 9))]
            for kind in KINDS:
                self.assertEqual(state_told(kind, state(kind, given(kind, values))), clerk.fold(kind, values))

    def test_kinds_of_what_is_told(self):
        for kind in KINDS:
            values = given(kind, (3, 1, 3))
            told = state(kind, values)
            self.assertIs(type(told), int if kind in ("count", "sum") else tuple)


if __name__ == "__main__":
    unittest.main()
