"""[32] texts of histories."""

import copy
import unittest

from countedonce.errors import BadText
from countedonce.histories import history_by, history_text
from tests import makers
from tests.tales import KINDS, events

ONE = ("come", "lose", "double", "fall", "rise", "burn", "step")
NONE = ("think", "stop", "begin", "begin torn")


def place(text):
    try:
        history_by(text)
    except BadText as wrong:
        return (wrong.line, wrong.column)
    return None


def as_told(event):
    """An event with the numbers alone that its line has."""
    kind, at, more = event
    return (kind, at if kind in ONE + ("tear",) else 0, more if kind == "tear" else 0)


class Reading(unittest.TestCase):
    def test_each_kind(self):
        for kind in ONE:
            self.assertEqual(history_by(kind + " 3"), [(kind, 3, 0)])
        for kind in NONE:
            self.assertEqual(history_by(kind), [(kind, 0, 0)])
        self.assertEqual(history_by("tear 3 4"), [("tear", 3, 4)])
        self.assertEqual(set(ONE + NONE + ("tear",)), set(KINDS))

    def test_several_lines(self):
        self.assertEqual(history_by("begin\nbegin torn\nthink\ncome 10\ntear 0 7\nstop"),
                         [("begin", 0, 0), ("begin torn", 0, 0), ("think", 0, 0), ("come", 10, 0), ("tear", 0, 7),
                          ("stop", 0, 0)])
        told = history_by("think\nthink")
        self.assertIs(type(told), list)
        self.assertIs(type(told[0]), tuple)

    def test_the_empty_text(self):
        self.assertEqual(history_by(""), [])
        self.assertEqual(history_text([]), "")
        self.assertEqual(history_text(()), "")

    def test_numbers(self):
        for word, value in (("0", 0), ("9", 9), ("10", 10), ("123456789", 123456789), ("9" * 9, 10 ** 9 - 1)):
            self.assertEqual(history_by("come " + word), [("come", value, 0)])
            self.assertEqual(history_by("tear " + word + " " + word), [("tear", value, value)])


class Places(unittest.TestCase):
    def test_no_string(self):
        for thing in (None, 5, b"think", ["think"], (), True):
            self.assertEqual(place(thing), (0, 0))

    def test_wrong_lines(self):
        for line, at in (
                ("", 1), (" ", 1), ("  ", 1), (" think", 1), ("think ", 7), ("think  ", 7), ("thinks", 1), ("Think", 1),
                ("torn", 1), ("think 0", 7), ("think think", 7), ("stop 1", 6), ("begin 1", 7), ("begin  torn", 7),
                ("begin ", 7), ("begin tor", 7), ("begin torn ", 12), ("begin torn 1", 12), ("begin torn torn", 12),
                ("begin Torn", 7), ("begintorn", 1), ("come", 5), ("come ", 6), ("come  3", 6), (" come 3", 1),
                ("come 3 ", 8), ("come 3  ", 8), ("come 3 4", 8), ("come x", 6), ("come -3", 6), ("come +3", 6), ("come 03", 6),
                ("come 00", 6), ("come 1234567890", 6), ("come 000000001", 6), ("come 3.", 6), ("come 3 # first", 8),
                ("come\t3", 1), ("come 3\t", 6), ("come 3\r", 6), ("come \u0663", 6), ("come \u00b2", 6), ("tear", 5),
                ("tear 2", 7), ("tear 2 ", 8), ("tear  2", 6), ("tear 2  1", 8), ("tear 2 x", 8), ("tear x 2", 6),
                ("tear x y", 6), ("tear 2 01", 8), ("tear 2 1 ", 10), ("tear 2 1 5", 10), ("tear 12 3456789012", 9),
                ("tear x", 6), ("3", 1), ("3 come", 1), ("fall", 5), ("rise x", 6), ("burn 1 2", 8), ("lose -", 6),
                ("double 01", 8), ("step 5 6", 8), ("#", 1), ("come 3, 4", 6), ("read 3", 1)):
            if line:
                self.assertEqual(place(line), (1, at), line)
            self.assertEqual(place("think\ncome 3\n" + line), (3, at), line)
            self.assertEqual(place("think\n" + line + "\n\nx"), (2, at), line)

    def test_lines_without_words(self):
        self.assertEqual(place("\n"), (1, 1))
        self.assertEqual(place("think\n"), (2, 1))
        self.assertEqual(place("think\n\nthink"), (2, 1))
        self.assertEqual(place("\nthink"), (1, 1))

    def test_the_first_wrong_word_of_the_first_wrong_line(self):
        self.assertEqual(place("think\ntear 01 02 03\ncome"), (2, 6))
        self.assertEqual(place("come 3\ncome\nthinks"), (2, 5))
        self.assertEqual(place("tear 1 x 3"), (1, 8))


class Writing(unittest.TestCase):
    def test_each_kind(self):
        for kind in ONE:
            self.assertEqual(history_text([(kind, 3, 0)]), kind + " 3")
            self.assertEqual(history_text([(kind, 3, 7)]), kind + " 3")
        for kind in NONE:
            self.assertEqual(history_text([(kind, 0, 0)]), kind)
            self.assertEqual(history_text([(kind, 4, 7)]), kind)
        self.assertEqual(history_text([("tear", 2, 1)]), "tear 2 1")
        self.assertEqual(history_text((("think", 0, 0), ("tear", 0, 10 ** 9 - 1))), "think\ntear 0 999999999")

    def test_what_it_was(self):
        for seed in range(150):
            history = [as_told(event) for event in events(makers.source(seed), 120)]
            kept = copy.deepcopy(history)
            self.assertEqual(history_by(history_text(history)), history)
            self.assertEqual(history_by(history_text(tuple(history))), history)
            self.assertEqual(history, kept)

    def test_3000_events(self):
        history = [as_told(event) for event in events(makers.source(1), 3000)]
        self.assertEqual(history_by(history_text(history)), history)


if __name__ == "__main__":
    unittest.main()
