"""Jobs, read from their texts."""

from countedonce.errors import BadText
from countedonce.exprreader import read_expression
from countedonce.pieces import Line


def read_list(line, read_one):
    """A tuple of one thing at least, with commas between."""
    things = [read_one(line)]
    while line.took(","):
        things.append(read_one(line))
    return tuple(things)


def read_name(line):
    """A name."""
    return line.take("name")


def read_column(line):
    """A column of a table with its kind."""
    name = line.take("name")
    return (name, line.take_one_of(("int", "text")))


def read_new_name(line):
    """The name that an expression gets."""
    line.expect("as")
    return line.take("name")


def read_mapped(line):
    """A column of a map."""
    told = read_expression(line)
    # Only a column alone has a name already.
    if told[0] == "column" and line.own_word() != "as":
        return (told, told[1])
    return (told, read_new_name(line))


def read_folded(line):
    """A fold of a fold's step."""
    kind = line.take_one_of(("count", "sum", "least", "greatest", "mean", "unlike"))
    line.expect("(")
    told = None
    if kind != "count":
        told = read_expression(line)
    line.expect(")")
    return (kind, told, read_new_name(line))


def read_sorted(line):
    """A column by which is sorted, and its way."""
    name = line.take("name")
    return (name, line.take_one_of(("up", "down")))


def read_one_input(line):
    """The input of a step that has one."""
    return (line.take("name"),)


def read_two_inputs(line):
    """The inputs of a step that has two."""
    one = line.take("name")
    line.expect(",")
    return (one, line.take("name"))


def read_filter(line):
    """The inputs and details of a filter."""
    inputs = read_one_input(line)
    line.expect("where")
    return inputs, read_expression(line)


def read_map(line):
    """The inputs and details of a map."""
    inputs = read_one_input(line)
    line.expect("to")
    return inputs, read_list(line, read_mapped)


def read_fold(line):
    """The inputs and details of a fold."""
    inputs = read_one_input(line)
    keys = ()
    if line.took("by"):
        keys = read_list(line, read_name)
    line.expect(":")
    return inputs, (keys, read_list(line, read_folded))


def read_join(line):
    """The inputs and details of a join."""
    inputs = read_two_inputs(line)
    line.expect("by")
    return inputs, read_list(line, read_name)


def read_union(line):
    """The inputs and details of a union."""
    return read_two_inputs(line), ()


def read_unlike(line):
    """The inputs and details of an unlike."""
    return read_one_input(line), ()


def read_sort(line):
    """The inputs and details of a sort."""
    inputs = read_one_input(line)
    line.expect("by")
    order = read_list(line, read_sorted)
    line.expect("first")
    return inputs, (order, line.take("number"))


READERS = {
    "filter": read_filter, "map": read_map, "fold": read_fold, "join": read_join, "union": read_union,
    "unlike": read_unlike, "sort": read_sort}


def read_table_head(line):
    """The name and the columns of a table."""
    name = line.take("name")
    line.expect("(")
    columns = read_list(line, read_column)
    line.expect(")")
    return name, columns


def read_step(line):
    """The step that a line tells."""
    if line.took("read"):
        name, columns = read_table_head(line)
        return (name, "read", (), columns)
    name = line.take("name")
    line.expect("=")
    what = line.take_one_of(list(READERS))
    read_rest = READERS[what]
    inputs, details = read_rest(line)
    return (name, what, inputs, details)


def read_job(text):
    """The job that a text tells; raises BadText where the text is wrong."""
    if not isinstance(text, str):
        raise BadText(0, 0)
    rows = text.split("\n")
    steps = []
    answer = None
    for at, row in enumerate(rows):
        line = Line(row, at + 1)
        if answer is not None:
            line.expect_end()
        elif line.took("answer"):
            answer = line.take("name")
            line.expect_end()
        elif not line.is_kind("end"):
            steps.append(read_step(line))
            line.expect_end()
    if answer is None:
        raise BadText(len(rows), len(rows[-1]) + 1)
    return tuple(steps), answer
