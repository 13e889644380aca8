"""[6] reading: where wrong texts are wrong."""

import unittest

from countedonce.errors import BadText
from countedonce.jobreader import read_job
from countedonce.jobwriting import job_text
from countedonce.pieces import OWN_WORDS, Line
from tests import earley, makers

SIGNS = ("!=", "<=", ">=", "(", ")", ",", "=", "<", ">", "+", "-", "*", "/", ":")
WORDS = OWN_WORDS + SIGNS + ("zz", "7", "\"q\"")


def place(text):
    """Where a text is wrong, or None."""
    try:
        read_job(text)
    except BadText as wrong:
        return (wrong.line, wrong.column)
    return None


class Lines(unittest.TestCase):
    def test_no_string(self):
        for thing in (None, 5, b"answer a", ["answer a"], ("answer a",), {}):
            self.assertEqual(place(thing), (0, 0))

    def test_no_answer(self):
        for text in ("", "\n", "# answer c", "read a(x int)", "read a(x int)\n\n", "read a(x int)\n  # b"):
            line, column = place(text)
            rows = text.split("\n")
            self.assertTrue((line, column) > (len(rows), len(rows[-1])), text)

    def test_behind_the_answer(self):
        self.assertEqual(place("answer a\n\n   answer a"), (3, 4))
        self.assertEqual(place("answer a\nread a(x int)"), (2, 1))
        self.assertEqual(place("answer a\n ) ("), (2, 2))
        self.assertEqual(place("answer a\nb c % d"), (2, 5))
        self.assertEqual(place("answer a b"), (1, 10))
        self.assertEqual(place("answer a # b\n \n# c"), None)

    def test_line_by_line(self):
        self.assertEqual(place("read a(x int\n%\nanswer a"), (1, 13))
        self.assertEqual(place("read a(x int)\n b = unlike\n c = % \nanswer a"), (2, 12))
        self.assertEqual(place("read a(x int)\n b = unlike a\n c = % \nanswer a"), (3, 6))
        self.assertEqual(place("read a(x int)\r\nanswer a"), (1, 14))

    def test_the_end_of_a_line_is_behind_all_of_it(self):
        self.assertEqual(place("b = unlike\nanswer b"), (1, 11))
        self.assertEqual(place("b = unlike   \nanswer b"), (1, 14))
        self.assertEqual(place("answer"), (1, 7))

    def test_by_hand(self):
        for text, at in (
                ("= b", 1), ("5", 1), ("\"a\"", 1), ("b", 2), ("b unlike a", 3), ("b = a", 5), ("b = read a(x int)", 5),
                ("b = answer", 5), ("unlike a", 1), ("read (x int)", 6), ("read a x int", 8), ("read a()", 8),
                ("read a(x)", 9), ("read a(x int,)", 14), ("read a(x int t text)", 14), ("read a(x int) b", 15),
                ("read a(x number)", 10), ("read a(int x)", 8), ("b = filter a", 13), ("b = filter where x", 12),
                ("b = filter a, c where x", 13), ("b = filter a to x", 14), ("b = filter a where x as y", 22),
                ("b = map a to x + y", 19), ("b = map a to x + y, z", 19), ("b = map a to x,", 16),
                ("b = map a to (x) y", 18), ("b = map a to x as", 18), ("b = map a to x as y z", 21),
                ("b = map a to 5", 15), ("b = map a to \"t\", x", 17), ("b = map a to -x", 16),
                ("b = map a to (x + 1)", 21), ("b = map a x", 11), ("b = map a, c to x", 10),
                ("b = fold a", 11), ("b = fold a by", 14), ("b = fold a by t count() as n", 17),
                ("b = fold a by : count() as n", 15), ("b = fold a by t,: count() as n", 17), ("b = fold a:", 12),
                ("b = fold a: count(x) as n", 19), ("b = fold a: sum() as n", 17), ("b = fold a: count()", 20),
                ("b = fold a: sum(x)", 19), ("b = fold a: sum(x) n", 20), ("b = fold a: x as n", 13),
                ("b = fold a: length(x) as n", 13), ("b = fold a: count() as n,", 26), ("b = fold a: count as n", 19),
                ("b = fold a: count() as n by t", 26), ("b = fold a: sum x as n", 17),
                ("c = join a by t", 12), ("c = join a, b", 14), ("c = join a, b by", 17), ("c = join a, b, d by t", 14),
                ("c = join a, b by t,", 20), ("c = join a b by t", 12), ("c = join a, b by t u", 20),
                ("c = union a", 12), ("c = union a, b, d", 15), ("c = union a b", 13), ("c = union a, b by t", 16),
                ("c = unlike a, b", 13), ("c = unlike a by t", 14), ("c = unlike (a)", 12),
                ("c = sort a", 11), ("c = sort a first 5", 12), ("c = sort a by x first 5", 17),
                ("c = sort a by x", 16), ("c = sort a by x up", 19), ("c = sort a by x up first", 25),
                ("c = sort a by x up, first 5", 21), ("c = sort a by x up first -5", 26),
                ("c = sort a by x up first five", 26), ("c = sort a by x up first 5 5", 28),
                ("c = sort a by x down down first 5", 22), ("c = sort a by x + 1 up first 5", 17)):
            self.assertEqual(place(text + "\nanswer a"), (1, at), text)

    def test_like_the_grammar(self):
        kinds = {"name": "<name>", "number": "<number>", "quoted": "<quoted>"}
        wrong = 0
        for seed in range(150):
            rng = makers.source(seed)
            for row in job_text(makers.job(rng)[0]).split("\n"):
                text = " ".join(changed(rng, words_of(row)))
                pieces = Line(text, 1).pieces
                at = earley.first_wrong([kinds.get(kind, value) for kind, value, _ in pieces[:-1]])
                if len(pieces) > 1 and at is not None:
                    self.assertEqual(place(text + "\nanswer x"), (1, pieces[at][2]), text)
                    wrong += 1
                elif not text.startswith("answer"):
                    self.assertIsNone(place(text + "\nanswer x"), text)
        self.assertGreater(wrong, 500)


def words_of(row):
    return ["\"" + value + "\"" if kind == "quoted" else str(value) for kind, value, _ in Line(row, 1).pieces[:-1]]


def changed(rng, words):
    """Words with one of them changed, put in, left out, or with all behind it left out."""
    at = rng.randrange(len(words))
    way = rng.randrange(4)
    if way == 0:
        return words[:at] + [rng.choice(WORDS)] + words[at + 1:]
    if way == 1:
        return words[:at] + [rng.choice(WORDS)] + words[at:]
    if way == 2:
        return words[:at] + words[at + 1:]
    return words[:at]


# Places in which whole expressions, and those in brackets, stand: what is ahead of them and behind them.
AROUND = (
    ("b = filter a where ", ""), ("b = filter a where ", " # told"), ("b = map a to ", " as y"),
    ("b = map a to x, ", " as y, z"), ("b = fold a: sum(", ") as s"), ("b = fold a by t: count() as n, mean(", ") as s"),
    ("b = filter a where (", ")"), ("b = filter a where x or (", ")"), ("b = filter a where length(", ")"),
    ("b = map a to -(", ") as y"), ("b = fold a: unlike(length(", ")) as s"), ("b = filter a where ((", "))"))


def behind(text, tail):
    """The column of the next piece behind a text, blanks apart, or of the line's end."""
    if tail.strip() == "" or tail.strip().startswith("#"):
        return len(text + tail) + 1
    return len(text) + len(tail) - len(tail.lstrip()) + 1


def expressions_around(head):
    """How many expressions more a whole one has than what stands in its brackets."""
    return 2 * head.count("x or") + head.count("length(") + head.count("-(")


def in_brackets(many):
    """An expression of so many, an odd number, not deep, in brackets."""
    if many == 1:
        return "x"
    return "(" + sums(many) + ")"


def sums(many):
    """An expression of so many, not deep, without brackets around all."""
    if many % 2 == 0:
        return "-" + in_brackets(many // 4 * 2 - 1) + " + " + in_brackets(many - 1 - many // 4 * 2)
    half = many // 4 * 2 + 1
    return in_brackets(half) + " + " + in_brackets(many - 1 - half)


class Large(unittest.TestCase):
    def test_how_the_tests_make_them(self):
        for many in (3, 5, 7, 39, 41, 77, 79, 80, 81, 82, 83):
            text = sums(many)
            signs = text.count("x") + text.count("+") + text.count("-")
            self.assertEqual(signs, many)

    def test_more_than_80(self):
        for head, tail in AROUND:
            more = expressions_around(head)
            self.assertIsNone(place(head + sums(80 - more) + tail + "\nanswer b"), head)
            text = head + sums(81)
            self.assertEqual(place(text + tail + "\nanswer b"), (1, behind(text, tail)), head)
            if more > 0:
                # What stands in the brackets is just small enough, what they stand in is not.
                text = head + sums(80)
                whole = text + tail.replace(" as y", "").replace(") as s", "")
                self.assertEqual(place(text + tail + "\nanswer b"),
                                 (1, behind(whole, (text + tail)[len(whole):])), head)

    def test_more_than_40_within_one_another(self):
        for head, tail in AROUND:
            more = min(1, expressions_around(head))
            self.assertIsNone(place(head + "- " * (39 - more) + "x" + tail + "\nanswer b"), head)
            text = head + "- " * 40 + "x"
            self.assertEqual(place(text + tail + "\nanswer b"), (1, behind(text, tail)), head)
            if more > 0:
                text = head + "- " * 39 + "x"
                whole = text + tail.replace(" as y", "").replace(") as s", "")
                self.assertEqual(place(text + tail + "\nanswer b"),
                                 (1, behind(whole, (text + tail)[len(whole):])), head)

    def test_40_of_each_kind(self):
        head = "b = filter a where "
        for ahead, inner in (("not ", ""), ("-", ""), ("x - (", ")"), ("x and (", ")"), ("length(", ")"),
                             ("(", ") + x"), ("", " + x"), ("", " or x")):
            text = head + ahead * 39 + "x" + inner * 39
            self.assertIsNone(place(text + "\nanswer b"), text)
            # Of 41 only the outermost one is too deep.
            text = head + ahead * 40 + "x" + inner * 40
            self.assertEqual(place(text + "\nanswer b"), (1, len(text) + 1), text)

    def test_other_parts_are_not_measured(self):
        head = "b = filter a where "
        for text in ("x or " + sums(81) + " or x", "- " * 41 + "x * x + x", "x and not x = " + sums(83) + " and x"):
            self.assertEqual(place(head + text + "\nanswer b"), (1, len(head + text) + 1), text)
            self.assertEqual(place(head + text + ")\nanswer b"), (1, len(head + text) + 1), text)

    def test_brackets_are_no_expressions(self):
        self.assertIsNone(place("b = filter a where " + "(" * 99 + "x" + ")" * 99 + "\nanswer b"))
        self.assertIsNone(place("b = filter a where " + "((((x)))) + " * 39 + "(x)" + "\nanswer b"))

    def test_a_wrong_piece_within_comes_first(self):
        text = "b = filter a where (" + in_brackets(41) + " * " + in_brackets(41)
        self.assertEqual(place(text + " ) %\nanswer b"), (1, len(text) + 4))
        self.assertEqual(place(text + " , )\nanswer b"), (1, len(text) + 2))
        self.assertEqual(place(text + " 5 )\nanswer b"), (1, len(text) + 2))
        self.assertEqual(place(text + "\nanswer b"), (1, len(text) + 1))


class Open(unittest.TestCase):
    def test_brackets(self):
        for head, tail in AROUND:
            more = head.count("(") + head.count("x or") + head.count("-(") - head.count("sum(")
            more = more - head.count("mean(") - head.count("unlike(") - head.count("count(")
            ok = "(" * (99 - more) + "x" + ")" * (99 - more)
            self.assertIsNone(place(head + ok + tail + "\nanswer b"), head)
            text = head + "(" * (100 - more)
            for rest in ("x" + ")" * (100 - more) + tail, "", " ) (", "(" * 50, "-x", "not x", "length(x)", " , "):
                at = behind(text, rest)
                self.assertEqual(place(text + rest + "\nanswer b"), (1, at), text + rest)

    def test_each_kind(self):
        head = "b = filter a where "
        for ahead in ("not ", "- ", "(", "length( "):
            text = head + ahead * 100
            self.assertEqual(place(text + "x\nanswer b"), (1, len(text) + 1), ahead)
            text = head + ahead * 99
            # Just at the bound it is wrong behind it only, at the end or where a bracket is lacking.
            wrong = place(text + "x\nanswer b")
            self.assertEqual(wrong, (1, len(text) + 2), ahead)

    def test_right_sides(self):
        head = "b = filter a where "
        for op in (" or ", " and ", " = ", " + ", " * ", " mod "):
            text = head + ("x" + op + "(") * 50
            self.assertEqual(place(text + "x\nanswer b"), (1, len(text) + 1), op)
            text = head + ("x" + op + "(") * 49 + "x" + op
            self.assertEqual(place(text + "x\nanswer b"), (1, len(text) + 2), op)
            self.assertEqual(place(text + "(x)\nanswer b"), (1, len(text) + 2), op)
        # All kinds of right sides within one another: six of them, and a minus.
        text = head + "x or not x and not x = x + x * -x"
        self.assertIsNone(place(text + "\nanswer b"))

    def test_what_is_closed_is_open_no_more(self):
        head = "b = filter a where "
        self.assertIsNone(place(head + " + ".join(["(" * 98 + "x" + ")" * 98] * 40) + "\nanswer b"))
        text = head + "(" * 98 + "x + "
        self.assertIsNone(place(text + "x" + ")" * 98 + "\nanswer b"))
        self.assertIsNone(place(text + "x + x - x" + ")" * 98 + "\nanswer b"))
        self.assertEqual(place(text + "x * x" + ")" * 98 + "\nanswer b"), (1, len(text) + 5))
        self.assertEqual(place(text + "-x" + ")" * 98 + "\nanswer b"), (1, len(text) + 2))


if __name__ == "__main__":
    unittest.main()
