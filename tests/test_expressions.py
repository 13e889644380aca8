"""[9] worth, [2] wrapped ints, [8] expression_text."""

import itertools
import unittest

from countedonce.expressions import expression_text, worth
from countedonce.jobreader import read_job
from tests import clerk, makers

LOW, HIGH = -2 ** 63, 2 ** 63 - 1
ENDS = (LOW, LOW + 1, -2, -1, 0, 1, 2, 3, HIGH - 1, HIGH)
PLACES = {"x": 0, "y": 1}
X, Y = ("column", "x"), ("column", "y")


def two(op, one, other):
    return worth(("two", op, X, Y), PLACES, (one, other))


class Worth(unittest.TestCase):
    def test_leaves(self):
        self.assertEqual(worth(("number", 7), {}, ()), 7)
        self.assertEqual(worth(("quoted", "a # b"), {}, ()), "a # b")
        self.assertEqual(worth(Y, PLACES, (5, "t")), "t")

    def test_wrapped_at_the_ends(self):
        self.assertEqual(two("+", HIGH, 1), LOW)
        self.assertEqual(two("-", LOW, 1), HIGH)
        self.assertEqual(two("*", HIGH, HIGH), 1)
        self.assertEqual(two("*", LOW, LOW), 0)
        self.assertEqual(two("*", LOW, -1), LOW)
        self.assertEqual(two("/", LOW, -1), LOW)
        self.assertEqual(two("mod", LOW, -1), 0)
        self.assertEqual(worth(("minus", X), PLACES, (LOW, 0)), LOW)
        self.assertEqual(worth(("minus", X), PLACES, (HIGH, 0)), LOW + 1)

    def test_wrapped_at_each_op_and_not_only_at_last(self):
        told = ("two", "/", ("two", "+", X, ("number", 1)), ("number", 2))
        self.assertEqual(worth(told, PLACES, (HIGH, 0)), LOW // 2)

    def test_divided_and_mod(self):
        for one, other, divided, rest in (
                (7, 2, 3, 1), (-7, 2, -4, 1), (7, -2, -4, -1), (-7, -2, 3, -1), (6, 3, 2, 0), (-6, 3, -2, 0),
                (7, 0, 0, 0), (-7, 0, 0, 0), (0, 0, 0, 0), (LOW, 0, 0, 0), (LOW, 2, LOW // 2, 0),
                (HIGH, LOW, -1, -1), (LOW, HIGH, -2, HIGH - 1)):
            self.assertEqual((two("/", one, other), two("mod", one, other)), (divided, rest))

    def test_comparisons(self):
        for one, other in itertools.product((LOW, -1, 0, 1, HIGH), repeat=2):
            got = [two(op, one, other) for op in ("=", "!=", "<", "<=", ">", ">=")]
            self.assertEqual(got, [int(one == other), int(one != other), int(one < other), int(one <= other),
                                   int(one > other), int(one >= other)])

    def test_comparisons_of_texts_go_sign_by_sign(self):
        self.assertEqual(two("<", "10", "9"), 1)
        self.assertEqual(two("<", "a", "ab"), 1)
        self.assertEqual(two("<", "", "a"), 1)
        self.assertEqual(two("<", "Z", "a"), 1)
        self.assertEqual(two(">", "\u20ac", "z"), 1)
        self.assertEqual(two(">=", "ab", "ab"), 1)
        self.assertEqual(two("!=", "ab", "a"), 1)
        self.assertEqual(two("=", "a", "A"), 0)

    def test_and_or_not_of_any_ints(self):
        for one, other in itertools.product((LOW, -1, 0, 1, 2, HIGH), repeat=2):
            self.assertEqual(two("and", one, other), int(one != 0 and other != 0))
            self.assertEqual(two("or", one, other), int(one != 0 or other != 0))
        for one, told in ((0, 1), (1, 0), (2, 0), (-1, 0), (LOW, 0)):
            self.assertEqual(worth(("not", X), PLACES, (one, 0)), told)

    def test_answers_are_ints_and_no_bools(self):
        for op in ("=", "<", "and", "or"):
            self.assertIs(type(two(op, 1, 1)), int)
        self.assertIs(type(worth(("not", X), PLACES, (1, 0))), int)

    def test_length(self):
        for text in ("", "a", "a b", "\u20ac\n\""):
            self.assertEqual(worth(("length", X), PLACES, (text, 0)), len(text))

    def test_like_the_clerk_at_the_ends(self):
        ops = ("+", "-", "*", "/", "mod", "and", "or", "=", "!=", "<", "<=", ">", ">=")
        for op, one, other in itertools.product(ops, ENDS, ENDS):
            self.assertEqual(two(op, one, other), clerk.value(("two", op, X, Y), {"x": one, "y": other}))

    def test_like_the_clerk_on_made_expressions(self):
        columns = (("x", "int"), ("t", "text"), ("y", "int"))
        for seed in range(400):
            rng = makers.source(seed)
            told = makers.expression(rng, columns, rng.choice(("int", "text")), 6)
            for row in makers.rows(rng, columns):
                want = clerk.value(told, dict(zip(("x", "t", "y"), row)))
                self.assertEqual(worth(told, {"x": 0, "t": 1, "y": 2}, row), want)


def read_again(text):
    return read_job("b = filter a where " + text + "\nanswer b")[0][0][3]


class Text(unittest.TestCase):
    def test_each_kind(self):
        for told in (("number", 0), ("number", 10 ** 18 - 1), ("quoted", ""), ("quoted", "# ( \\ \u20ac"), X,
                     ("not", X), ("minus", X), ("length", X), ("not", ("not", X)), ("minus", ("minus", X)),
                     ("length", ("two", "or", X, ("not", Y))), ("minus", ("not", X)), ("not", ("minus", X))):
            self.assertEqual(read_again(expression_text(told)), told)

    def test_each_op_on_each_side_of_each_op(self):
        ops = ("or", "and", "=", "!=", "<", "<=", ">", ">=", "+", "-", "*", "/", "mod")
        for one, other in itertools.product(ops, repeat=2):
            inner = ("two", other, X, Y)
            for told in (("two", one, inner, X), ("two", one, X, inner), ("two", one, inner, inner)):
                self.assertEqual(read_again(expression_text(told)), told)

    def test_not_and_minus_on_each_side_of_each_op(self):
        ops = ("or", "and", "=", "<", "+", "-", "*", "/", "mod")
        for op, what, other in itertools.product(ops, ("not", "minus", "length"), ("not", "minus", "length")):
            inner = (what, (other, X))
            for told in (("two", op, inner, Y), ("two", op, Y, inner), (what, ("two", op, X, Y)),
                         (other, (what, ("two", op, inner, Y))),
                         ("two", "and", ("two", op, Y, inner), X)):
                self.assertEqual(read_again(expression_text(told)), told)

    def test_made_expressions(self):
        for seed in range(500):
            told = makers.expression(makers.source(seed), (("x", "int"), ("t", "text")), "int", 6)
            self.assertEqual(read_again(expression_text(told)), told)

    def test_the_deepest(self):
        for op in ("or", "and", "+", "-", "*", "mod"):
            left = right = X
            for _ in range(39):
                left = ("two", op, left, Y)
                right = ("two", op, Y, right)
            self.assertEqual(read_again(expression_text(left)), left)
            self.assertEqual(read_again(expression_text(right)), right)
        for what in ("not", "minus"):
            told = X
            for _ in range(39):
                told = (what, told)
            self.assertEqual(read_again(expression_text(told)), told)
        told = X
        for _ in range(19):
            told = ("minus", ("not", told))
        self.assertEqual(read_again(expression_text(told)), told)


if __name__ == "__main__":
    unittest.main()
