"""What each kind of step does with lists of rows."""

from countedonce.expressions import worth
from countedonce.folds import no_state, one_state, put_together, state_told


def places_of(columns):
    """The dict from the names of columns to their places."""
    return {column[0]: at for at, column in enumerate(columns)}


def values_at(row, ats):
    """The values of a row at some places."""
    return tuple([row[at] for at in ats])


def ats_of(names, places):
    """The places of some columns."""
    return [places[name] for name in names]


def filtered(rows, told, places):
    """The rows in which an expression is not 0."""
    return [row for row in rows if worth(told, places, row) != 0]


def mapped(rows, details, places):
    """The rows of a map."""
    return [tuple([worth(told, places, row) for told, _ in details]) for row in rows]


def fold_value(told, places, row):
    """What a fold takes of a row: nothing if it has no expression."""
    if told is None:
        return None
    return worth(told, places, row)


def with_row(states, folds, places, row):
    """The states of some folds, put together with those of a row."""
    more = []
    for state, (kind, told, _) in zip(states, folds):
        more.append(put_together(kind, state, one_state(kind, fold_value(told, places, row))))
    return more


def states_by_key(rows, details, places):
    """The dict from the keys of rows to the lists of their folds' states."""
    keys, folds = details
    ats = ats_of(keys, places)
    found = {}
    for row in rows:
        key = values_at(row, ats)
        if key not in found:
            found[key] = [no_state(kind) for kind, _, _ in folds]
        found[key] = with_row(found[key], folds, places, row)
    return found


def folded(rows, details, places):
    """The rows of a fold."""
    kinds = [kind for kind, _, _ in details[1]]
    told = []
    for key, states in states_by_key(rows, details, places).items():
        told.append(key + tuple([state_told(kind, state) for kind, state in zip(kinds, states)]))
    return told


def rows_by_key(rows, ats):
    """The dict from the values at some places to the rows that have them."""
    found = {}
    for row in rows:
        found.setdefault(values_at(row, ats), []).append(row)
    return found


def rest_places(keys, places):
    """The places of the columns that are no keys, in their order."""
    return [at for name, at in places.items() if name not in keys]


def joined(ones, others, keys, one_places, other_places):
    """The rows of a join."""
    one_ats = ats_of(keys, one_places)
    one_rest = rest_places(keys, one_places)
    other_rest = rest_places(keys, other_places)
    found = rows_by_key(others, ats_of(keys, other_places))
    rows = []
    for row in ones:
        key = values_at(row, one_ats)
        for other in found.get(key, []):
            rows.append(key + values_at(row, one_rest) + values_at(other, other_rest))
    return rows


def unlike_rows(rows):
    """Each row once, ascending."""
    return sorted(set(rows))


def place_down(value):
    """A thing that stands the further ahead, the further behind a value stands."""
    if isinstance(value, str):
        # The 1 stands behind all that is none above 0: a text comes behind those that begin with it.
        return tuple([-ord(sign) for sign in value] + [1])
    return -value


def row_place(row, order, places):
    """A thing that stands where a row stands in the order of a sort."""
    told = []
    for name, way in order:
        value = row[places[name]]
        if way == "down":
            value = place_down(value)
        told.append(value)
    return tuple(told)


def with_places(rows, order, places):
    """Pairs of rows' places in the order of a sort and the rows: sorted, they stand in that order."""
    return [(row_place(row, order, places), row) for row in rows]


def first_rows(rows, details, places):
    """The first so many rows, sorted by some columns, and then by the whole row."""
    order, many = details
    return [row for _, row in sorted(with_places(rows, order, places))[:many]]


def step_rows(what, details, lists, columns):
    """The rows of a step that is no read, of the lists of its inputs' rows and of their columns."""
    rows = lists[0]
    places = places_of(columns[0])
    if what == "filter":
        return filtered(rows, details, places)
    if what == "map":
        return mapped(rows, details, places)
    if what == "fold":
        return folded(rows, details, places)
    if what == "join":
        return joined(rows, lists[1], details, places, places_of(columns[1]))
    if what == "union":
        return list(rows) + list(lists[1])
    if what == "unlike":
        return unlike_rows(rows)
    return first_rows(rows, details, places)
