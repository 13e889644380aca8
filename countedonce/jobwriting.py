"""Jobs, written as texts."""

from countedonce.expressions import expression_text


def table_head(name, columns):
    """A table's name and its columns."""
    return name + "(" + ", ".join([column + " " + kind for column, kind in columns]) + ")"


def mapped_text(told, name):
    """A column of a map, as short as it can be told, for a line has not room for many pieces."""
    if told == ("column", name):
        return name
    return expression_text(told) + " as " + name


def folded_text(kind, told, name):
    """A fold of a fold's step."""
    inner = ""
    if kind != "count":
        inner = expression_text(told)
    return kind + "(" + inner + ") as " + name


def filter_rest(details):
    """What stands behind the input of a filter."""
    return " where " + expression_text(details)


def map_rest(details):
    """What stands behind the input of a map."""
    return " to " + ", ".join([mapped_text(told, name) for told, name in details])


def fold_rest(details):
    """What stands behind the input of a fold."""
    keys, folds = details
    by = ""
    if len(keys) > 0:
        by = " by " + ", ".join(keys)
    return by + ": " + ", ".join([folded_text(kind, told, name) for kind, told, name in folds])


def join_rest(details):
    """What stands behind the inputs of a join."""
    return " by " + ", ".join(details)


def no_rest(details):
    """What stands behind the inputs of a union or an unlike."""
    return ""


def sort_rest(details):
    """What stands behind the input of a sort."""
    order, many = details
    return " by " + ", ".join([column + " " + way for column, way in order]) + " first " + str(many)


RESTS = {
    "filter": filter_rest, "map": map_rest, "fold": fold_rest, "join": join_rest, "union": no_rest,
    "unlike": no_rest, "sort": sort_rest}


def step_line(step):
    """The line of a step."""
    name, what, inputs, details = step
    if what == "read":
        return "read " + table_head(name, details)
    rest_of = RESTS[what]
    return name + " = " + what + " " + ", ".join(inputs) + rest_of(details)


def job_text(job):
    """A text that is read as a job."""
    steps, answer = job
    lines = [step_line(step) for step in steps]
    lines.append("answer " + answer)
    return "\n".join(lines)
