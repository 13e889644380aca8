"""Folds piece by piece: pairs of keys and the states of some of their rows, which are put together."""

from countedonce.folds import one_state, put_together, state_told
from countedonce.rowwork import fold_value, ats_of, values_at


def plainly(rows):
    """A list of things, ascending."""
    return sorted(rows)


def row_states(rows, details, places):
    """The pairs of each row by itself."""
    keys, folds = details
    ats = ats_of(keys, places)
    told = []
    for row in rows:
        states = [one_state(kind, fold_value(inner, places, row)) for kind, inner, _ in folds]
        told.append((values_at(row, ats), tuple(states)))
    return told


def states_together(folds, ones, others):
    """The states of two bags of rows together."""
    return tuple([put_together(fold[0], one, other) for fold, one, other in zip(folds, ones, others)])


def together(pairs, folds, sorter):
    """A pair for each key, keys ascending; sorter tells lists in their order."""
    told = []
    for key, states in sorter(pairs):
        if told and told[-1][0] == key:
            states = states_together(folds, told.pop()[1], states)
        told.append((key, states))
    return told


def rows_told(pairs, folds):
    """The rows of a fold, of the pairs of all rows."""
    told = []
    for key, states in pairs:
        told.append(key + tuple([state_told(fold[0], state) for fold, state in zip(folds, states)]))
    return told
