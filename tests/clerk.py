"""The patient clerk: the meaning of jobs once more, told in another way than the package tells it."""

import ctypes
import functools
from collections import Counter


def int64(number):
    return ctypes.c_int64(number).value


def holds(one, op, other):
    below = one < other
    return {"=": one == other, "!=": one != other, "<": below, ">=": not below,
            ">": other < one, "<=": not other < one}[op]


def value(told, row):
    """What an expression tells in a row, a dict."""
    if told[0] in ("number", "quoted"):
        return told[1]
    if told[0] == "column":
        return row[told[1]]
    if told[0] == "length":
        return sum(1 for _ in value(told[1], row))
    if told[0] == "not":
        return 0 if value(told[1], row) else 1
    if told[0] == "minus":
        return int64(0 - value(told[1], row))
    _, op, one, other = told
    one, other = value(one, row), value(other, row)
    if op == "and":
        return 1 if one and other else 0
    if op == "or":
        return 1 if one or other else 0
    if op in ("/", "mod"):
        quotient, rest = divmod(one, other) if other else (0, 0)
        return int64(quotient) if op == "/" else rest
    if op in ("+", "-", "*"):
        return int64({"+": one + other, "-": one - other, "*": one * other}[op])
    return 1 if holds(one, op, other) else 0


def fold(kind, values):
    if kind == "count":
        return len(values)
    if kind == "sum":
        return int64(sum(values))
    if kind == "mean":
        return int64(sum(values)) // len(values)
    if kind == "unlike":
        return len(set(values))
    return {"least": min, "greatest": max}[kind](values)


def folded(rows, details):
    keys, folds = details
    bags = {}
    for row in rows:
        bags.setdefault(tuple(row[key] for key in keys), []).append(row)
    found = []
    for key, bag in bags.items():
        told = dict(zip(keys, key))
        for kind, inner, name in folds:
            told[name] = fold(kind, [None if inner is None else value(inner, row) for row in bag])
        found.append(told)
    return found


def sorted_first(rows, details, names):
    def compared(one, other):
        for name, way in details[0]:
            if one[name] != other[name]:
                return -1 if (one[name] < other[name]) == (way == "up") else 1
        wholes = [tuple(row[name] for name in names) for row in (one, other)]
        return 0 if wholes[0] == wholes[1] else -1 if wholes[0] < wholes[1] else 1
    return sorted(rows, key=functools.cmp_to_key(compared))[:details[1]]


def step_rows(step, lists, names):
    _, what, _, details = step
    rows = lists[0]
    if what == "filter":
        return [row for row in rows if value(details, row)]
    if what == "map":
        return [{name: value(told, row) for told, name in details} for row in rows]
    if what == "fold":
        return folded(rows, details)
    if what == "join":
        return [{**one, **other} for one in rows for other in lists[1] if all(one[k] == other[k] for k in details)]
    if what == "union":
        return rows + lists[1]
    if what == "unlike":
        return [dict(pairs) for pairs in Counter([tuple(row.items()) for row in rows])]
    return sorted_first(rows, details, names)


def all_rows(job, data, columns):
    """The dict from all steps to their rows as dicts."""
    found = {}
    for step in job[0]:
        name, what, inputs, details = step
        names = [column for column, _ in columns[name]]
        if what == "read":
            rows = [dict(zip(names, row)) for row in data.get(name, ())]
        else:
            rows = step_rows(step, [found[source] for source in inputs], names)
        # Rows in the order of their columns, so that equal rows have equal items.
        found[name] = [{column: row[column] for column in names} for row in rows]
    return found


def told(job, data, columns):
    """The answer."""
    rows = [tuple(row.values()) for row in all_rows(job, data, columns)[job[1]]]
    if dict([(step[0], step[1]) for step in job[0]])[job[1]] == "sort":
        return rows
    return sorted(rows)
