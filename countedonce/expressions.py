"""What expressions are worth, and how they are written."""

from countedonce.values import wrapped

# How tightly ops hold together what stands beside them, the loosest ones first.
WHOLE = 1
NOT = 3
COMPARISON = 4
MINUS = 7
ALONE = 8
LEVELS = {
    "or": 1, "and": 2, "=": 4, "!=": 4, "<": 4, "<=": 4, ">": 4, ">=": 4, "+": 5, "-": 5, "*": 6, "/": 6, "mod": 6}


def is_so(op, one, other):
    """Whether a comparison holds."""
    if op == "=":
        return one == other
    if op == "!=":
        return one != other
    if op == "<":
        return one < other
    if op == "<=":
        return one <= other
    if op == ">":
        return one > other
    return one >= other


def counted(op, one, other):
    """What an op of two ints tells, not wrapped yet."""
    if op == "+":
        return one + other
    if op == "-":
        return one - other
    if op == "*":
        return one * other
    if other == 0:
        return 0
    if op == "/":
        return one // other
    return one % other


def worth_of_two(op, one, other):
    """What an op tells of two values."""
    if op == "and":
        return int(one != 0 and other != 0)
    if op == "or":
        return int(one != 0 or other != 0)
    if LEVELS[op] == COMPARISON:
        return int(is_so(op, one, other))
    return wrapped(counted(op, one, other))


def worth(told, places, row):
    """What an expression is worth in a row; places is a dict from columns to their places."""
    what = told[0]
    if what == "column":
        return row[places[told[1]]]
    if what == "two":
        return worth_of_two(told[1], worth(told[2], places, row), worth(told[3], places, row))
    if what == "not":
        return int(worth(told[1], places, row) == 0)
    if what == "minus":
        return wrapped(-worth(told[1], places, row))
    if what == "length":
        return len(worth(told[1], places, row))
    return told[1]


def level_of(told):
    """How tightly an expression holds together when it is written."""
    if told[0] == "two":
        return LEVELS[told[1]]
    if told[0] == "not":
        return NOT
    if told[0] == "minus":
        return MINUS
    return ALONE


def text_of_two(op, one, other):
    """The text of an op between two expressions."""
    level = LEVELS[op]
    left = level
    if level == COMPARISON:
        # No comparison stands beside another one, while the other ops go together from the left.
        left = level + 1
    return text_at(one, left) + " " + op + " " + text_at(other, level + 1)


def text_at(told, level):
    """The text of an expression, in brackets if it is looser than its place lets it be."""
    if level_of(told) < level:
        return "(" + text_at(told, WHOLE) + ")"
    what = told[0]
    if what == "two":
        return text_of_two(told[1], told[2], told[3])
    if what == "not":
        return "not " + text_at(told[1], NOT)
    if what == "minus":
        return "-" + text_at(told[1], MINUS)
    if what == "length":
        return "length(" + text_at(told[1], WHOLE) + ")"
    if what == "quoted":
        return "\"" + told[1] + "\""
    return str(told[1])


def expression_text(told):
    """A text that is read as an expression."""
    return text_at(told, WHOLE)
