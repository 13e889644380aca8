"""Expressions as trees: their parts, how large they are, which columns they use."""

MOST_IN_ONE = 80
MOST_WITHIN = 40


def parts_of(told):
    """The expressions of which an expression is made at once."""
    if told[0] == "two":
        return [told[2], told[3]]
    if told[0] in ("not", "minus", "length"):
        return [told[1]]
    return []


def rows_of_parts(told):
    """An expression, then its parts, then theirs, and so on, each row a list."""
    rows = []
    row = [told]
    # No recursion: the reader asks for expressions that are much too deep as well.
    while len(row) > 0:
        rows.append(row)
        row = [part for whole in row for part in parts_of(whole)]
    return rows


def how_many(told):
    """How many expressions an expression is, itself counted."""
    return sum([len(row) for row in rows_of_parts(told)])


def how_deep(told):
    """How many expressions stand within one another; an expression alone is one."""
    return len(rows_of_parts(told))


def is_large(told):
    """Whether an expression is larger than a text of a job may tell it."""
    return how_many(told) > MOST_IN_ONE or how_deep(told) > MOST_WITHIN


def columns_used(told):
    """The names of the columns that an expression uses, some of them perhaps several times."""
    if told[0] == "column":
        return [told[1]]
    names = []
    for part in parts_of(told):
        names.extend(columns_used(part))
    return names


def with_columns(told, meanings):
    """An expression with other ones in the place of its columns; meanings is a dict from names to them."""
    if told[0] == "column":
        return meanings[told[1]]
    if told[0] == "two":
        return ("two", told[1], with_columns(told[2], meanings), with_columns(told[3], meanings))
    if told[0] in ("not", "minus", "length"):
        return (told[0], with_columns(told[1], meanings))
    return told
