"""Sums of keys, which tell into which piece rows go."""

MOST_SUM = 2 ** 61 - 1
FACTOR = 1000003
MIXED = 1024


def value_sum(value):
    """A number of a value."""
    if not isinstance(value, str):
        return value
    total = len(value)
    for sign in value:
        total = (total * FACTOR + ord(sign)) % MOST_SUM
    return total


def key_sum(key):
    """A number from 0, the same for equal keys; a key is a tuple of values."""
    total = 0
    for value in key:
        total = (total * FACTOR + value_sum(value)) % MOST_SUM
    # Without the last figures, so that keys which are all even do not meet in one of two pieces.
    return total * FACTOR % MOST_SUM // MIXED
