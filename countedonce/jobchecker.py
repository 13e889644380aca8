"""Which columns the steps of a job have, and what rows of such columns are."""

from countedonce.errors import BadJob
from countedonce.expressions import COMPARISON, LEVELS
from countedonce.values import is_of_kind


def kind_of_two(op, one, other):
    """The kind of an op between two values of these kinds, or None if it is wrong."""
    if one is None or one != other:
        return None
    if one == "text" and LEVELS[op] != COMPARISON:
        return None
    return "int"


def kind_of(told, kinds):
    """The kind of an expression, or None if it is wrong; kinds is a dict from columns to theirs."""
    what = told[0]
    if what == "number":
        return "int"
    if what == "quoted":
        return "text"
    if what == "column":
        return kinds.get(told[1])
    if what == "two":
        return kind_of_two(told[1], kind_of(told[2], kinds), kind_of(told[3], kinds))
    wanted = "int"
    if what == "length":
        wanted = "text"
    if kind_of(told[1], kinds) != wanted:
        return None
    return "int"


def check_there(name, words, kinds):
    """Raise BadJob for a step that tells a column which isn't there."""
    for word in words:
        if word not in kinds:
            raise BadJob(name, "column")


def unlike_columns(name, columns):
    """The columns as a tuple; raises BadJob if two of them have one name, as two keys that are alike have."""
    words = [column for column, _ in columns]
    if len(set(words)) != len(words):
        raise BadJob(name, "two columns of one name")
    return tuple(columns)


def columns_of_read(name, given, details):
    """The columns of a read."""
    return unlike_columns(name, details)


def columns_of_filter(name, given, details):
    """The columns of a filter."""
    if kind_of(details, dict(given[0])) != "int":
        raise BadJob(name, "expression")
    return given[0]


def columns_of_map(name, given, details):
    """The columns of a map."""
    kinds = dict(given[0])
    columns = []
    for told, column in details:
        kind = kind_of(told, kinds)
        if kind is None:
            raise BadJob(name, "expression")
        columns.append((column, kind))
    return unlike_columns(name, columns)


def kind_of_fold(name, fold, told, kinds):
    """The kind of what a fold tells."""
    if fold == "count":
        return "int"
    kind = kind_of(told, kinds)
    if kind is None or (fold in ("sum", "mean") and kind != "int"):
        raise BadJob(name, "expression")
    if fold in ("least", "greatest"):
        return kind
    return "int"


def columns_of_fold(name, given, details):
    """The columns of a fold."""
    kinds = dict(given[0])
    keys, folds = details
    check_there(name, keys, kinds)
    columns = [(key, kinds[key]) for key in keys]
    for fold, told, column in folds:
        columns.append((column, kind_of_fold(name, fold, told, kinds)))
    return unlike_columns(name, columns)


def columns_of_join(name, given, details):
    """The columns of a join."""
    ones, others = given
    one_kinds = dict(ones)
    other_kinds = dict(others)
    check_there(name, details, one_kinds)
    check_there(name, details, other_kinds)
    for key in details:
        if one_kinds[key] != other_kinds[key]:
            raise BadJob(name, "kind")
    columns = [(key, one_kinds[key]) for key in details]
    columns.extend([pair for pair in ones if pair[0] not in details])
    columns.extend([pair for pair in others if pair[0] not in details])
    return unlike_columns(name, columns)


def columns_of_union(name, given, details):
    """The columns of a union."""
    if given[0] != given[1]:
        raise BadJob(name, "columns")
    return given[0]


def columns_of_unlike(name, given, details):
    """The columns of an unlike."""
    return given[0]


def columns_of_sort(name, given, details):
    """The columns of a sort."""
    order, _ = details
    check_there(name, [column for column, _ in order], dict(given[0]))
    return given[0]


CHECKERS = {
    "read": columns_of_read, "filter": columns_of_filter, "map": columns_of_map, "fold": columns_of_fold,
    "join": columns_of_join, "union": columns_of_union, "unlike": columns_of_unlike, "sort": columns_of_sort}


def columns_of(job):
    """The dict from the steps' names to their columns; raises BadJob for the first wrong step."""
    steps, answer = job
    told = {}
    for name, what, inputs, details in steps:
        if name in told:
            raise BadJob(name, "told ahead")
        for source in inputs:
            if source not in told:
                raise BadJob(name, "no step ahead")
        columns_of_what = CHECKERS[what]
        told[name] = columns_of_what(name, [told[source] for source in inputs], details)
    if answer not in told:
        raise BadJob(answer, "no step")
    return told


def is_row(thing, columns):
    """Whether a thing is a row of these columns."""
    if not isinstance(thing, tuple) or len(thing) != len(columns):
        return False
    return all([is_of_kind(value, column[1]) for value, column in zip(thing, columns)])


def are_rows(thing, columns):
    """Whether a thing is a list or tuple of rows of these columns alone."""
    return isinstance(thing, (list, tuple)) and all([is_row(row, columns) for row in thing])
