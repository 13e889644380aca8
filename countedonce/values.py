"""Ints and texts: which things are such, and how ints are wrapped."""

LEAST_INT = -(2 ** 63)
GREATEST_INT = 2 ** 63 - 1


def wrapped(number):
    """The int that differs from a number by a multiple of 2 ** 64."""
    return (number - LEAST_INT) % 2 ** 64 + LEAST_INT


def is_of_kind(thing, kind):
    """Whether a thing is a value of a kind, "int" or "text"."""
    if kind == "text":
        return isinstance(thing, str)
    # True and False are ints to Python, but none to us.
    return isinstance(thing, int) and not isinstance(thing, bool) and LEAST_INT <= thing <= GREATEST_INT
