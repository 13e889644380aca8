"""Expressions, read from the pieces of a line."""

from countedonce.expressions import COMPARISON, LEVELS, MINUS, NOT, WHOLE
from countedonce.exprtrees import is_large

MOST_OPEN = 100


def next_level(line):
    """The level of the op that stands next in a line, 0 if none does."""
    return LEVELS.get(line.own_word(), 0)


def read_operand(line, level, many):
    """What stands ahead of an op, or between two, where an expression of a level begins."""
    if level <= NOT and line.took("not"):
        return ("not", read_part(line, NOT, many + 1))
    if line.took("-"):
        return ("minus", read_part(line, MINUS, many + 1))
    if line.took("("):
        told = read_part(line, WHOLE, many + 1)
        line.expect(")")
        return told
    if line.took("length"):
        line.expect("(")
        told = read_part(line, WHOLE, many + 1)
        line.expect(")")
        return ("length", told)
    if line.is_kind("number"):
        return ("number", line.take("number"))
    if line.is_kind("quoted"):
        return ("quoted", line.take("quoted"))
    return ("column", line.take("name"))


def read_part(line, level, many):
    """An expression whose ops are of a level or tighter; it is the many-th of those that are open."""
    if many > MOST_OPEN:
        line.fail()
    told = read_operand(line, level, many)
    while next_level(line) >= level:
        op = line.take("own")
        told = ("two", op, told, read_part(line, LEVELS[op] + 1, many + 1))
        if LEVELS[op] == COMPARISON and next_level(line) == COMPARISON:
            line.fail()
    if level == WHOLE and is_large(told):
        line.fail()
    return told


def read_expression(line):
    """A whole expression."""
    return read_part(line, WHOLE, 1)
