"""Lines of text, cut into pieces and read from the left."""

from countedonce.errors import BadText

MOST_PIECES = 300
MOST_FIGURES = 18
LONG_SIGNS = ("!=", "<=", ">=")
SHORT_SIGNS = "(),=<>+-*/:"
OWN_WORDS = (
    "read", "filter", "where", "map", "to", "as", "fold", "by", "join", "union", "unlike", "sort", "first", "up",
    "down", "answer", "and", "or", "not", "mod", "length", "int", "text", "count", "sum", "least", "greatest", "mean")


def is_figure(sign):
    """Whether a sign is one of 0 to 9 (no figures of other scripts)."""
    return "0" <= sign <= "9"


def is_letter(sign):
    """Whether a name may begin with a sign."""
    return "a" <= sign <= "z" or sign == "_"


def run_end(text, at):
    """The first place from a place on where no letter and no figure stands."""
    while at < len(text) and (is_letter(text[at]) or is_figure(text[at])):
        at += 1
    return at


def is_name(thing):
    """Whether a thing is a name."""
    if not isinstance(thing, str) or thing == "" or not is_letter(thing[0]):
        return False
    return run_end(thing, 0) == len(thing) and thing not in OWN_WORDS


def is_number(run):
    """Whether a run of letters and figures is a number."""
    if run == "0":
        return True
    return len(run) <= MOST_FIGURES and run[0] != "0" and all([is_figure(sign) for sign in run])


def piece_at(text, at):
    """The piece that begins at a place, as (kind, value, place behind it), or None.

    The kind is "name", "number", "quoted", or "own" for signs and own words.
    """
    sign = text[at]
    if is_letter(sign):
        end = run_end(text, at)
        run = text[at:end]
        if run in OWN_WORDS:
            return ("own", run, end)
        return ("name", run, end)
    if is_figure(sign):
        end = run_end(text, at)
        run = text[at:end]
        if is_number(run):
            return ("number", int(run), end)
        return None
    if sign == "\"":
        end = text.find("\"", at + 1)
        if end < 0:
            return None
        return ("quoted", text[at + 1:end], end + 1)
    if text[at:at + 2] in LONG_SIGNS:
        return ("own", text[at:at + 2], at + 2)
    if sign in SHORT_SIGNS:
        return ("own", sign, at + 1)
    return None


def is_bracket(piece):
    """Whether a piece is one of the brackets, which are not counted."""
    return piece[0] == "own" and piece[1] in ("(", ")")


def pieces_of(text, number):
    """The pieces of a line, as (kind, value, column), behind them one of the kind "end".

    Raises BadText for a line that cannot be cut; number is that of the line.
    """
    pieces = []
    many = 0
    at = 0
    while at < len(text) and text[at] != "#":
        if text[at] == " ":
            at += 1
        else:
            piece = piece_at(text, at)
            if piece is None:
                raise BadText(number, at + 1)
            if not is_bracket(piece):
                many += 1
            if many > MOST_PIECES:
                raise BadText(number, at + 1)
            pieces.append((piece[0], piece[1], at + 1))
            at = piece[2]
    pieces.append(("end", "", len(text) + 1))
    return pieces


class Line:
    """The pieces of a line, of which the next one is looked at, or taken."""

    def __init__(self, text, number):
        self.number = number
        self.pieces = pieces_of(text, number)
        self.place = 0

    def fail(self):
        """Tell that the next piece is wrong."""
        raise BadText(self.number, self.pieces[self.place][2])

    def is_kind(self, kind):
        """Whether the next piece is of a kind."""
        return self.pieces[self.place][0] == kind

    def own_word(self):
        """The next piece if it is a sign or an own word, else an empty text."""
        if self.is_kind("own"):
            return self.pieces[self.place][1]
        return ""

    def take(self, kind):
        """The value of the next piece, which must be of a kind, and is taken."""
        if not self.is_kind(kind):
            self.fail()
        value = self.pieces[self.place][1]
        self.place += 1
        return value

    def take_one_of(self, words):
        """The next piece, which must be one of these signs and own words, and is taken."""
        if self.own_word() not in words:
            self.fail()
        return self.take("own")

    def took(self, word):
        """Take the next piece if it is this sign or own word, and tell whether it was."""
        if self.own_word() != word:
            return False
        self.place += 1
        return True

    def expect(self, word):
        """Take the next piece, which must be this sign or own word."""
        if not self.took(word):
            self.fail()

    def expect_end(self):
        """No piece may stand here any more."""
        if not self.is_kind("end"):
            self.fail()
