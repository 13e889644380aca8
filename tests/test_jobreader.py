"""[3] pieces, [4] steps, [5] expressions, [6] reading: what right texts tell."""

import unittest

from countedonce.errors import BadText
from countedonce.jobreader import read_job
from countedonce.jobwriting import job_text
from countedonce.pieces import OWN_WORDS
from tests import makers

A, B, C, D = ("column", "a"), ("column", "b"), ("column", "c"), ("column", "d")


def place(text):
    """Where a text is wrong, or None."""
    try:
        read_job(text)
    except BadText as wrong:
        return (wrong.line, wrong.column)
    return None


def told(text):
    """The expression that a text tells."""
    return read_job("x = filter y where " + text + "\nanswer x")[0][0][3]


def column(text):
    """The column in an expression's text at which it is wrong, or None."""
    head = "x = filter y where "
    wrong = place(head + text + "\nanswer x")
    return None if wrong is None else wrong[1] - len(head)


def step(text):
    """The one step of a line."""
    steps, answer = read_job(text + "\nanswer c")
    assert answer == "c" and len(steps) == 1
    return steps[0]


class Pieces(unittest.TestCase):
    def test_names(self):
        for name in ("a", "_", "_9", "a_b9", "reads", "mod2", "first_", "z" * 500):
            self.assertEqual(told(name), ("column", name))
        for text, at in (("A", 1), ("aB", 2), ("a\u00e9", 2), ("9a", 1), ("\u00aa", 1), ("a b", 3)):
            self.assertEqual(column(text), at)

    def test_numbers(self):
        for text, number in (("0", 0), ("7", 7), ("10", 10), ("9" * 18, 10 ** 18 - 1), ("1" + "0" * 17, 10 ** 17)):
            self.assertEqual(told(text), ("number", number))
        for text in ("1" * 19, "00", "01", "0a", "0_", "5a", "5_", "5a5", "1" * 17 + "x"):
            self.assertEqual(column(text), 1)
            self.assertEqual(column("a + " + text), 5)
        self.assertEqual(column("5A"), 2)
        self.assertEqual(column("5\u00b2"), 2)
        self.assertEqual(column("5.5"), 2)
        self.assertEqual(told("5+5"), ("two", "+", ("number", 5), ("number", 5)))

    def test_quoted_texts(self):
        for inner in ("", " ", "#", "# a", "'", "\\", "\\n", "a\tb", "\u20ac", "answer x", "((", "A"):
            self.assertEqual(told("\"" + inner + "\""), ("quoted", inner))
        self.assertEqual(told("\"a\"=\"b\""), ("two", "=", ("quoted", "a"), ("quoted", "b")))
        self.assertEqual(column("\"abc"), 1)
        self.assertEqual(column("a = \"abc # d"), 5)
        self.assertEqual(column("a = \"b\" + \""), 11)
        self.assertEqual(column("\"a\" \"b\""), 5)

    def test_quoted_texts_are_no_signs_and_no_own_words(self):
        for inner in ("(", "-", "not", "length", ")", "a", "0", "=", "mod"):
            self.assertEqual(told("\"" + inner + "\""), ("quoted", inner))
            self.assertEqual(told("\"" + inner + "\" + b"), ("two", "+", ("quoted", inner), B))
            self.assertEqual(column("a \"" + inner + "\" b"), 3)
        self.assertEqual(place("\"read\" a(x int)"), (1, 1))
        self.assertEqual(place("\"answer\" a"), (1, 1))
        self.assertEqual(place("b = \"unlike\" a"), (1, 5))
        self.assertEqual(place("b = map a to x \"as\" y"), (1, 16))
        self.assertEqual(place("read a(x \"int\")"), (1, 10))
        self.assertEqual(place("read \"a\"(x int)"), (1, 6))
        self.assertEqual(place("b = sort a by x up first \"5\""), (1, 26))

    def test_signs_the_longest_one_counts(self):
        for sign in ("!=", "<=", ">=", "=", "<", ">", "+", "-", "*", "/"):
            self.assertEqual(told("a" + sign + "b"), ("two", sign, A, B))
        self.assertEqual(told("a<-b"), ("two", "<", A, ("minus", B)))
        self.assertEqual(column("a<>b"), 3)
        self.assertEqual(column("a< =b"), 4)
        self.assertEqual(column("a==b"), 3)
        self.assertEqual(column("a<=>b"), 4)
        for sign in ("!", "%", ";", "&", "'", "\\", ".", "[", "{", "\t", "\r", "\u00a0", "\f", "\u20ac"):
            self.assertEqual(column("a " + sign + " b"), 3)
        self.assertEqual(column("a !"), 3)
        self.assertEqual(column("a ! = b"), 3)

    def test_blanks(self):
        self.assertEqual(told("   a    +b   "), ("two", "+", A, B))
        self.assertEqual(read_job("  read  a ( x   int )  \n   \n\nanswer   a   \n  "),
                         ((("a", "read", (), (("x", "int"),)),), "a"))
        self.assertEqual(place("readc(x int)\nanswer c"), (1, 6))

    def test_behind_a_hash(self):
        self.assertEqual(told("a # + b % \" A"), A)
        self.assertEqual(told("\"#\" # \"#\""), ("quoted", "#"))
        self.assertEqual(read_job("# A %\nread c(x int)#\n#\nanswer c # d\n # e")[1], "c")

    def test_own_words_are_never_names(self):
        told_words = (
            "read filter where map to as fold by join union unlike sort first up down answer and or not mod length "
            "int text count sum least greatest mean")
        self.assertEqual(sorted(OWN_WORDS), sorted(told_words.split()))
        for word in told_words.split():
            self.assertEqual(place("read " + word + "(x int)\nanswer x"), (1, 6))
            self.assertEqual(place("read c(" + word + " int)\nanswer c"), (1, 8))
            self.assertEqual(place("answer " + word), (1, 8))
            self.assertEqual(place("x = filter " + word + " where a\nanswer x"), (1, 12))
            self.assertIsNone(place("read " + word + "_(x int)\nanswer x"))
            if word not in ("not", "length"):
                self.assertEqual(column("a + " + word), 5)

    def test_pieces_of_a_line(self):
        mapped = "m = map c to " + ", ".join(["a"] * 148)
        self.assertEqual(len(mapped.replace(",", " , ").split()), 300)
        self.assertIsNone(place(mapped + "\nanswer m"))
        self.assertIsNone(place(mapped + " # , b, c\nanswer m"))
        self.assertEqual(place(mapped + ", b\nanswer m"), (1, len(mapped) + 1))
        self.assertEqual(place(mapped + " , b\nanswer m"), (1, len(mapped) + 2))
        self.assertEqual(place("answer m\n" + mapped + " b"), (2, len(mapped) + 2))

    def test_brackets_are_not_counted(self):
        mapped = "m = map c to " + ", ".join(["((a))"] * 148)
        self.assertEqual(read_job(mapped + "\nanswer m")[0][0][3], ((("column", "a"), "a"),) * 148)
        self.assertEqual(place(mapped + ", b\nanswer m"), (1, len(mapped) + 1))
        mapped = "m = map c to " + ", ".join(["\"(\" as x"] * 74)
        self.assertIsNone(place(mapped + "\nanswer m"))
        self.assertEqual(place(mapped + ", x\nanswer m"), (1, len(mapped) + 1))

    def test_a_line_is_cut_ahead_of_all_else(self):
        self.assertEqual(place(") a % b"), (1, 5))
        self.assertEqual(place(") " + "a " * 299), (1, 1))
        self.assertEqual(place(") " + "a " * 300), (1, 1))
        self.assertEqual(place(") " + "a " * 301), (1, 3 + 2 * 300))
        self.assertEqual(place("a " * 300 + "00"), (1, 601))
        self.assertEqual(place("a " * 299 + "00 a"), (1, 599))
        self.assertEqual(place("a " * 301 + "%"), (1, 601))
        self.assertEqual(place("a " * 299 + "% a a"), (1, 599))


class Steps(unittest.TestCase):
    def test_read(self):
        self.assertEqual(step("read a(x int, t text)"), ("a", "read", (), (("x", "int"), ("t", "text"))))
        self.assertEqual(step("read a(x int)"), ("a", "read", (), (("x", "int"),)))

    def test_filter(self):
        self.assertEqual(step("b = filter a where b"), ("b", "filter", ("a",), B))

    def test_map(self):
        self.assertEqual(step("b = map a to a + b as y, d"),
                         ("b", "map", ("a",), ((("two", "+", A, B), "y"), (D, "d"))))
        self.assertEqual(step("b = map a to a as d"), ("b", "map", ("a",), ((A, "d"),)))
        self.assertEqual(step("b = map a to ((a)), (b) as c"), ("b", "map", ("a",), ((A, "a"), (B, "c"))))
        self.assertEqual(step("b = map a to not a as y, \"q\" as z"),
                         ("b", "map", ("a",), ((("not", A), "y"), (("quoted", "q"), "z"))))

    def test_fold(self):
        self.assertEqual(step("b = fold a by t: count() as n, sum(a) as s"),
                         ("b", "fold", ("a",), (("t",), (("count", None, "n"), ("sum", A, "s")))))
        self.assertEqual(step("b = fold a: least(a) as l, greatest(a + b) as g"),
                         ("b", "fold", ("a",), ((), (("least", A, "l"), ("greatest", ("two", "+", A, B), "g")))))
        self.assertEqual(step("b = fold a by t, u: mean(a or b) as m, unlike((b)) as v"),
                         ("b", "fold", ("a",), (("t", "u"), (("mean", ("two", "or", A, B), "m"),
                                                             ("unlike", B, "v")))))

    def test_join(self):
        self.assertEqual(step("c = join a, b by t"), ("c", "join", ("a", "b"), ("t",)))
        self.assertEqual(step("c = join a, a by t, u"), ("c", "join", ("a", "a"), ("t", "u")))

    def test_union_and_unlike(self):
        self.assertEqual(step("c = union a, b"), ("c", "union", ("a", "b"), ()))
        self.assertEqual(step("c = unlike a"), ("c", "unlike", ("a",), ()))

    def test_sort(self):
        self.assertEqual(step("c = sort a by x down, t up first 5"),
                         ("c", "sort", ("a",), ((("x", "down"), ("t", "up")), 5)))
        self.assertEqual(step("c = sort a by x up first 0"), ("c", "sort", ("a",), ((("x", "up"),), 0)))

    def test_job(self):
        text = "\n# a job\nread a(x int) # told\n\nb = unlike a\nanswer a\n\n  # end\n"
        self.assertEqual(read_job(text), ((("a", "read", (), (("x", "int"),)), ("b", "unlike", ("a",), ())), "a"))
        self.assertEqual(read_job("answer c"), ((), "c"))

    def test_the_reader_leaves_to_the_checker_what_is_its(self):
        self.assertEqual(read_job("b = unlike z\nb = union b, b\nanswer q")[1], "q")


class Expressions(unittest.TestCase):
    def test_from_the_left(self):
        for op, other in (("or", "or"), ("and", "and"), ("+", "+"), ("+", "-"), ("-", "+"), ("-", "-"), ("*", "/"),
                          ("/", "*"), ("mod", "*"), ("/", "mod"), ("mod", "mod")):
            self.assertEqual(told("a " + op + " b " + other + " c"),
                             ("two", other, ("two", op, A, B), C))

    def test_each_level_is_tighter_than_the_one_ahead(self):
        levels = (("or",), ("and",), ("=", "!=", "<", "<=", ">", ">="), ("+", "-"), ("*", "/", "mod"))
        for at, ops in enumerate(levels):
            for op in ops:
                for tight in [word for words in levels[at + 1:] for word in words]:
                    self.assertEqual(told("a " + op + " b " + tight + " c"),
                                     ("two", op, A, ("two", tight, B, C)))
                    self.assertEqual(told("a " + tight + " b " + op + " c"),
                                     ("two", op, ("two", tight, A, B), C))

    def test_not(self):
        self.assertEqual(told("not a = b"), ("not", ("two", "=", A, B)))
        self.assertEqual(told("not a and b"), ("two", "and", ("not", A), B))
        self.assertEqual(told("not a or b"), ("two", "or", ("not", A), B))
        self.assertEqual(told("a and not b or c"), ("two", "or", ("two", "and", A, ("not", B)), C))
        self.assertEqual(told("a or not b and c"), ("two", "or", A, ("two", "and", ("not", B), C)))
        self.assertEqual(told("a or not b = c + d"),
                         ("two", "or", A, ("not", ("two", "=", B, ("two", "+", C, D)))))
        self.assertEqual(told("not not not a"), ("not", ("not", ("not", A))))
        self.assertEqual(told("(not a) = b"), ("two", "=", ("not", A), B))
        self.assertEqual(told("length(not a)"), ("length", ("not", A)))
        self.assertEqual(told("not -a"), ("not", ("minus", A)))

    def test_where_not_may_not_stand(self):
        for op in ("=", "!=", "<", "<=", ">", ">=", "+", "-", "*", "/", "mod"):
            self.assertEqual(column("a " + op + " not b"), len(op) + 4)
        self.assertEqual(column("-not a"), 2)
        self.assertEqual(column("not a not b"), 7)
        self.assertEqual(column("a not"), 3)
        self.assertEqual(column("not - not a"), 7)

    def test_minus(self):
        self.assertEqual(told("-a * b"), ("two", "*", ("minus", A), B))
        self.assertEqual(told("a * -b"), ("two", "*", A, ("minus", B)))
        self.assertEqual(told("a - -b"), ("two", "-", A, ("minus", B)))
        self.assertEqual(told("---a"), ("minus", ("minus", ("minus", A))))
        self.assertEqual(told("-a - b"), ("two", "-", ("minus", A), B))
        self.assertEqual(told("-(a + b)"), ("minus", ("two", "+", A, B)))
        self.assertEqual(told("-5"), ("minus", ("number", 5)))
        self.assertEqual(told("-length(a)"), ("minus", ("length", A)))

    def test_two_comparisons_together(self):
        for op in ("=", "!=", "<", "<=", ">", ">="):
            self.assertEqual(column("a " + op + " b " + op + " c"), len(op) + 6)
            self.assertEqual(column("a + b " + op + " c + d < a"), len(op) + 14)
            self.assertEqual(column("d and a " + op + " b = c"), len(op) + 12)
            self.assertEqual(column("not a " + op + " b = c"), len(op) + 10)
        self.assertEqual(told("(a = b) = c"), ("two", "=", ("two", "=", A, B), C))
        self.assertEqual(told("a = (b = c)"), ("two", "=", A, ("two", "=", B, C)))
        self.assertEqual(told("a = b and c = d"), ("two", "and", ("two", "=", A, B), ("two", "=", C, D)))

    def test_brackets(self):
        self.assertEqual(told("(((a)))"), A)
        self.assertEqual(told("a * (b + c)"), ("two", "*", A, ("two", "+", B, C)))
        self.assertEqual(told("a - (b - c)"), ("two", "-", A, ("two", "-", B, C)))
        self.assertEqual(told("length(\"ab\") + 1"), ("two", "+", ("length", ("quoted", "ab")), ("number", 1)))
        for text, at in (("()", 2), ("(a", 3), ("a)", 2), ("(a))", 4), ("length a", 8), ("length()", 8),
                         ("length(a", 9), ("length", 7), ("a b", 3), ("a (b)", 3), ("+a", 1), ("a +", 4), ("", 1),
                         ("(a, b)", 3), ("a : b", 3), ("a * / b", 5), ("count()", 1), ("a 5", 3)):
            self.assertEqual(column(text), at)


class Conventions(unittest.TestCase):
    def test_equal_arguments_give_equal_answers(self):
        for seed in range(20):
            text = job_text(makers.job(makers.source(seed))[0])
            self.assertEqual(read_job(text), read_job(text))
            self.assertIsInstance(read_job(text)[0], tuple)
            hash(read_job(text))


if __name__ == "__main__":
    unittest.main()
