"""Hot keys: folds whose pieces stay small though most rows have the same few keys."""

from countedonce.foldwork import plainly, row_states, rows_told, together
from countedonce.keysums import key_sum
from countedonce.rowwork import ats_of, rows_by_key, values_at


def name_places(names):
    """The dict from the names of columns to their places."""
    return {name: at for at, name in enumerate(names)}


def hot_keys(rows, keys, names, most):
    """The ascending list of the keys that more than so many rows have."""
    found = rows_by_key(rows, ats_of(keys, name_places(names)))
    return sorted([key for key, its in found.items() if len(its) > most])


def dealt_rows(rows, keys, names, hot, pieces):
    """The rows of each piece: those of all hot keys dealt in turn, the others by the sums of their keys."""
    ats = ats_of(keys, name_places(names))
    hot_ones = {key: True for key in hot}
    turn = 0
    dealt = [[] for _ in range(pieces)]
    for row in rows:
        key = values_at(row, ats)
        if key in hot_ones:
            dealt[turn % pieces].append(row)
            turn += 1
        else:
            dealt[key_sum(key) % pieces].append(row)
    return dealt


def fold_in_two(rows, details, names, hot, pieces):
    """The rows of a fold, keys ascending: first piece by piece, then the states of all pieces together."""
    keys, folds = details
    places = name_places(names)
    pairs = []
    for piece in dealt_rows(rows, keys, names, hot, pieces):
        pairs.extend(together(row_states(piece, details, places), folds, plainly))
    return rows_told(together(pairs, folds, plainly), folds)


def most_in_piece(rows, keys, names, hot, pieces):
    """The most rows of one piece."""
    return max([len(piece) for piece in dealt_rows(rows, keys, names, hot, pieces)])
