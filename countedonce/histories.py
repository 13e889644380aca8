"""Histories: events of worlds, written as texts and read from them."""

from countedonce.errors import BadText
from countedonce.pieces import is_figure

MOST_FIGURES = 9
# How many numbers stand behind the first word of an event's line.
NUMBERS = {
    "come": 1, "lose": 1, "double": 1, "fall": 1, "rise": 1, "burn": 1, "step": 1, "tear": 2, "think": 0, "stop": 0,
    "begin": 0, "begin torn": 0}


def event_text(event):
    """The line of an event."""
    kind, at, more = event
    return " ".join([kind] + [str(number) for number in (at, more)[:NUMBERS[kind]]])


def history_text(events):
    """A text that is read as events."""
    return "\n".join([event_text(event) for event in events])


def is_count(word):
    """Whether a word is a number of an event."""
    if word == "" or len(word) > MOST_FIGURES or not all([is_figure(sign) for sign in word]):
        return False
    return word == "0" or word[0] != "0"


def kind_told(words):
    """The kind of the event that the words of a line tell, or an empty text."""
    if words[:2] == ["begin", "torn"]:
        return "begin torn"
    if words[0] in NUMBERS:
        return words[0]
    return ""


def first_wrong(words, kind):
    """The number of the first word that is wrong, or that lacks behind all; None if a line is right."""
    if kind == "":
        return 0
    start = len(kind.split(" "))
    end = start + NUMBERS[kind]
    for at in range(start, end):
        if at >= len(words) or not is_count(words[at]):
            return at
    if len(words) > end:
        return end
    return None


def column_of(words, at):
    """The column at which a word of a line begins; of one that lacks, that behind the line's end."""
    column = len(" ".join(words[:at])) + 1
    if 0 < at < len(words):
        # The blank ahead of it.
        column += 1
    return column


def read_event(told, number):
    """The event that a line tells; number is that of the line."""
    words = told.split(" ")
    kind = kind_told(words)
    wrong = first_wrong(words, kind)
    if wrong is not None:
        raise BadText(number, column_of(words, wrong))
    numbers = [int(word) for word in words[len(kind.split(" ")):]] + [0, 0]
    return (kind, numbers[0], numbers[1])


def history_by(text):
    """The list of the events that a text tells; raises BadText where the text is wrong."""
    if not isinstance(text, str):
        raise BadText(0, 0)
    if text == "":
        return []
    return [read_event(told, at + 1) for at, told in enumerate(text.split("\n"))]
