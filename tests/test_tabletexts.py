"""[32] texts of tables; [3] pieces, as they stand in them."""

import copy
import unittest

from countedonce.errors import BadText, BadThing
from countedonce.pieces import OWN_WORDS
from countedonce.tabletexts import table_by, table_text
from tests import makers

BOTH = (("x", "int"), ("t", "text"))
HEAD = "a(x int, t text)\n"


def place(text):
    try:
        table_by(text)
    except BadText as wrong:
        return (wrong.line, wrong.column)
    return None


def is_refused(name, columns, rows):
    try:
        table_text(name, columns, rows)
    except BadThing:
        return True
    return False


def spaced(rng, text):
    """A text with more blanks, remarks and lines without pieces, where these make no difference."""
    lines = []
    for line in text.split("\n"):
        told, is_quoted = "", False
        for sign in line:
            is_quoted = is_quoted != (sign == "\"")
            if not is_quoted and sign in "(),-":
                sign = " " * rng.randint(0, 2) + sign + " " * rng.randint(0, 2)
            told += sign
        lines += rng.choice(([], ["", "  "], ["# 5, \"p\""], ["   # a(x int)"]))
        lines.append(" " * rng.randint(0, 2) + told + rng.choice(("", "  ", "# \"", " # a, 5")))
    return "\n".join(lines)


class Reading(unittest.TestCase):
    def test_by_hand(self):
        self.assertEqual(table_by("visits(who text, seconds int)\n\"ann\", 3\n\"bo\", -4"),
                         ("visits", (("who", "text"), ("seconds", "int")), [("ann", 3), ("bo", -4)]))
        self.assertEqual(table_by("a(x int)"), ("a", (("x", "int"),), []))
        self.assertEqual(table_by("_9(_ text)\n\"\"\n\"\""), ("_9", (("_", "text"),), [("",), ("",)]))

    def test_kinds_of_what_is_told(self):
        name, columns, rows = table_by(HEAD + "1, \"p\"")
        self.assertIs(type(columns), tuple)
        self.assertIs(type(columns[0]), tuple)
        self.assertIs(type(rows), list)
        self.assertIs(type(rows[0]), tuple)

    def test_blanks_remarks_and_lines_without_pieces(self):
        text = "\n # none\n  a ( x  int ,t text )#y\n\n   \n1,\"p\"\n # 2, \"q\"\n -  2 , \"q\"  # r\n"
        self.assertEqual(table_by(text), ("a", BOTH, [(1, "p"), (-2, "q")]))

    def test_quoted_texts(self):
        for told in ("", "q, r", "#", " # 5", "  ", "a(x int)", "-", "1, 2", "\\n", "\t", "\r", "\u00e9\u20ac", "read", "'"):
            self.assertEqual(table_by("a(t text, u text)\n\"" + told + "\",\"" + told + "\""),
                             ("a", (("t", "text"), ("u", "text")), [(told, told)]))

    def test_ints(self):
        for told, value in (("0", 0), ("7", 7), ("10", 10), ("-0", 0), ("-7", -7), ("- 7", -7), ("-  10", -10),
                            ("9" * 18, 10 ** 18 - 1), ("-" + "9" * 18, 1 - 10 ** 18), ("1" + "0" * 17, 10 ** 17)):
            self.assertEqual(table_by("a(x int)\n" + told), ("a", (("x", "int"),), [(value,)]))
            self.assertEqual(table_by("a(x int, y int)\n5," + told), ("a", (("x", "int"), ("y", "int")), [(5, value)]))

    def test_drawn_blanks_and_remarks(self):
        for seed in range(200):
            rng = makers.source(seed)
            table = drawn(rng)
            self.assertEqual(table_by(spaced(rng, table_text(*table))), table)


class Places(unittest.TestCase):
    def test_no_string(self):
        for thing in (None, 5, b"a(x int)", ["a(x int)"], (), True):
            self.assertEqual(place(thing), (0, 0))

    def test_no_line_that_has_pieces(self):
        for text in ("", "\n", "   ", "# a(x int)", "\n\n  # 1, 2\n "):
            self.assertEqual(place(text), (1, 1))

    def test_the_first_line(self):
        for text, at in (
                ("a", 2), ("a ", 3), ("a # b", 6), ("a(", 3), ("a()", 3), ("a(x", 4), ("a(x)", 4), ("a(x int", 8),
                ("a(x int,", 9), ("a(x int,)", 9), ("a(x int t text)", 9), ("a(x number)", 5), ("a(int x)", 3),
                ("a(x \"int\")", 5), ("(x int)", 1), ("5(x int)", 1), ("\"a\"(x int)", 1), ("read a(x int)", 1),
                ("count(x int)", 1), ("a(count int)", 3), ("a(x int) b", 10), ("a(x int))", 9), ("a(x int):", 9),
                ("a x int", 3), ("a = (x int)", 3), ("A(x int)", 1), ("a(X int)", 3), ("1, \"p\"", 1), ("a(x int);", 9),
                ("a(x int) \"", 10), ("a(x int) 05", 10), ("a(x int, x2 int3)", 13), ("-a(x int)", 1)):
            self.assertEqual(place(text), (1, at), text)
            self.assertEqual(place("# b\n\n" + text + "\n1, 2, 3"), (3, at), text)

    def test_rows(self):
        for row, at in (
                ("1", 2), ("1 ", 3), ("1 # b", 6), ("1,", 3), ("1, ", 4), ("1, \"p\",", 7), ("1, \"p\", 2", 7),
                ("1, \"p\" 2", 8), ("1, \"p\" \"q\"", 8), ("\"p\", 1", 1), ("1, 2", 4), ("1, -2", 4), ("1, t", 4), ("x, \"p\"", 1),
                ("1 \"p\"", 3), (", \"p\"", 1), ("-, \"p\"", 2), ("-\"p\", \"p\"", 2), ("--1, \"p\"", 2), ("- -1, \"p\"", 3),
                ("-", 2), ("- ", 3), ("+1, \"p\"", 1), ("1, \"p", 4), ("1, p\"", 5), ("\"1, 2", 1), ("1; \"p\"", 2),
                ("1" * 19 + ", \"p\"", 1), ("-" + "1" * 19 + ", \"p\"", 2), ("01, \"p\"", 1), ("-00, \"p\"", 2),
                ("1a, \"p\"", 1), ("1_, \"p\"", 1), ("-1x, \"p\"", 2), ("1, \"p\", \"q", 9), ("(1, \"p\")", 1),
                ("1, (\"p\")", 4), ("1, \"p\")", 7), ("1 + 1, \"p\"", 3), ("1.5, \"p\"", 2), ("a(x int)", 1), ("1, int", 4),
                ("1, \"p\"\r", 7), ("\t1, \"p\"", 1), ("1:\"p\"", 2)):
            self.assertEqual(place(HEAD + row), (2, at), row)
            self.assertEqual(place(HEAD + "\n2, \"q\"\n" + row + "\n5"), (4, at), row)

    def test_a_line_is_cut_into_pieces_first(self):
        self.assertEqual(place(HEAD + "1 1, %"), (2, 6))
        self.assertEqual(place("a(x %\n05"), (1, 5))
        self.assertEqual(place(HEAD + "1\n05"), (2, 2))

    def test_300_pieces(self):
        self.assertEqual(place("a(x int)\n1" + ", 1" * 149), (2, 2))
        self.assertEqual(place("a(x int)\n1" + ", 1" * 149 + ",)))"), (2, 2))
        self.assertEqual(place("a(x int)\n1" + ", 1" * 150), (2, 451))

    def test_60_columns(self):
        columns = tuple([("c" + str(number), ("int", "text")[number % 2]) for number in range(60)])
        row = tuple([(-number, "t" + str(number))[number % 2] for number in range(60)])
        self.assertEqual(table_by(table_text("a", columns, [row, row])), ("a", columns, [row, row]))

    def test_lines_end_at_a_line_feed_alone(self):
        self.assertEqual(table_by(HEAD + "1, \"p\rq\x0b\x0c\x85\u2028\""), ("a", BOTH, [(1, "p\rq\x0b\x0c\x85\u2028")]))
        self.assertEqual(place("a(x int)\r\n1"), (1, 9))


def drawn(rng):
    columns = tuple([(name, rng.choice(("int", "text"))) for name in rng.sample(makers.NAMES, rng.randint(1, 6))])
    values = {"int": (0, 1, -1, 10, 10 ** 18 - 1, 1 - 10 ** 18), "text": makers.TEXTS + ("# , ", "-5", "a b  c")}
    rows = [tuple([rng.choice(values[kind]) for _, kind in columns]) for _ in range(rng.randint(0, 6))]
    return rng.choice(("a", "_", "visits", "x9_", "_1")), columns, rows


class Writing(unittest.TestCase):
    def test_by_hand(self):
        text = table_text("visits", (("who", "text"), ("seconds", "int")), [("ann", 3), ("", -4)])
        self.assertEqual(len(text.split("\n")), 3)
        self.assertEqual(table_by(text), ("visits", (("who", "text"), ("seconds", "int")), [("ann", 3), ("", -4)]))

    def test_what_it_was(self):
        for seed in range(400):
            name, columns, rows = drawn(makers.source(seed))
            self.assertEqual(table_by(table_text(name, columns, rows)), (name, columns, rows))
            self.assertEqual(table_by(table_text(name, columns, tuple(rows))), (name, columns, rows))
            self.assertEqual(table_by(table_text(name, list(columns), rows)), (name, columns, rows))

    def test_nothing_is_changed(self):
        columns, rows = [("x", "int"), ("t", "text")], [(1, "p"), (2, "q")]
        kept = copy.deepcopy((columns, rows))
        self.assertEqual(table_text("a", columns, rows), table_text("a", columns, rows))
        self.assertEqual((columns, rows), kept)

    def test_names_that_are_none(self):
        good = [(1, "p")]
        for name in ("", "A", "aB", "9", "9a", "a b", "a-b", " a", "a ", "a.b", "\u00e9", "a\n", "\"a\"", "#", None, 5, b"a",
                     ("a",)) + OWN_WORDS:
            self.assertTrue(is_refused(name, BOTH, good), name)
            self.assertTrue(is_refused("a", (("x", "int"), (name, "text")), good), name)
        for name in ("a", "_", "__", "a9", "_9", "counts", "reading", "x" * 99):
            self.assertFalse(is_refused(name, BOTH, good), name)
            self.assertFalse(is_refused("a", (("x", "int"), (name + "_", "text")), good), name)

    def test_columns(self):
        self.assertTrue(is_refused("a", (), []))
        self.assertTrue(is_refused("a", [], []))
        self.assertTrue(is_refused("a", (), [()]))
        for many in (1, 59, 60, 61, 62, 100):
            columns = tuple([("c" + str(number), "int") for number in range(many)])
            self.assertEqual(is_refused("a", columns, []), many > 60)
            self.assertEqual(is_refused("a", columns, [tuple(range(many))]), many > 60)
        for columns in (None, 5, "x", ("x", "int"), (None,), (("x",),), (("x", "int", "y"),), ((),), ("xi",), (5,)):
            self.assertTrue(is_refused("a", columns, []), columns)
        for kind in ("number", "", None, 5, "Int", "mean"):
            self.assertTrue(is_refused("a", (("x", kind),), []))

    def test_rows_of_other_kinds(self):
        for rows in ([("p", 1)], [(1, "p", 2)], [(1,)], [()], [[1, "p"]], [(1, "p"), None], [(True, "p")], [(1.0, "p")],
                     [(1, None)], [(1, b"p")], None, "p", 5, [(2 ** 63, "p")], [(-2 ** 63 - 1, "p")]):
            self.assertTrue(is_refused("a", BOTH, rows), rows)

    def test_ints_of_more_than_18_figures(self):
        for number in (10 ** 18, -10 ** 18, 2 ** 63 - 1, -2 ** 63):
            self.assertTrue(is_refused("a", BOTH, [(1, "p"), (number, "p")]))
        for number in (10 ** 18 - 1, 1 - 10 ** 18, 0):
            self.assertFalse(is_refused("a", BOTH, [(1, "p"), (number, "p")]))

    def test_texts_with_quotes_or_line_feeds(self):
        for told in ("\"", "a\"b", "\n", "a\n", "\nb", "a\r\nb"):
            self.assertTrue(is_refused("a", BOTH, [(1, "p"), (2, told)]), told)
        for told in ("'", "\r", "\\", "#", ", ", "\t", "\u20ac"):
            self.assertFalse(is_refused("a", BOTH, [(1, "p"), (2, told)]), told)


if __name__ == "__main__":
    unittest.main()
