"""What the tasks of each phase do with the rows of the files that they read.

Each function is passed the phase's details, the columns of the rows that are read, their lists, where its task stands
(its part, and how many files it writes), and a function that tells lists in their order.
"""

from countedonce.foldwork import row_states, rows_told, together
from countedonce.keysums import key_sum
from countedonce.rowwork import filtered, joined, mapped, places_of, ats_of, values_at, with_places


def at_once(lists):
    """The rows of all lists."""
    return [row for rows in lists for row in rows]


def cut_by_keys(pairs, many):
    """The things of pairs of keys and things, cut by the keys' sums."""
    pieces = [[] for _ in range(many)]
    for key, thing in pairs:
        pieces[key_sum(key) % many].append(thing)
    return pieces


def spread(pairs, hot, part, many):
    """The pairs of keys and states, cut by the keys' sums, but those of each hot key dealt in turn."""
    # Beginning here for each key by itself, so that states made ahead never go to a piece where their rows would not.
    turns = {key: part + at for at, key in enumerate(hot)}
    pieces = [[] for _ in range(many)]
    for pair in pairs:
        key = pair[0]
        if key in turns:
            pieces[turns[key] % many].append(pair)
            turns[key] += 1
        else:
            pieces[key_sum(key) % many].append(pair)
    return pieces


def read_files(details, columns, lists, stand, sorter):
    """A block: it reads nothing, and no task can tell its rows."""
    return [[]]


def filter_files(details, columns, lists, stand, sorter):
    """A filter of a part."""
    return [filtered(lists[0], details, places_of(columns[0]))]


def map_files(details, columns, lists, stand, sorter):
    """A map of a part."""
    return [mapped(lists[0], details, places_of(columns[0]))]


def union_files(details, columns, lists, stand, sorter):
    """A part of a union."""
    return [lists[0]]


def cut_files(details, columns, lists, stand, sorter):
    """A side of a join cut by its keys."""
    ats = ats_of(details, places_of(columns[0]))
    return cut_by_keys([(values_at(row, ats), row) for row in lists[0]], stand[1])


def join_files(details, columns, lists, stand, sorter):
    """A join of the rows of the first so many lists with those of the others."""
    keys, many = details
    ones, others = columns
    return [joined(at_once(lists[:many]), at_once(lists[many:]), keys, places_of(ones), places_of(others))]


def unlike_in_order(rows, sorter):
    """Each row once, ascending."""
    told = []
    for row in sorter(rows):
        if not told or told[-1] != row:
            told.append(row)
    return told


def unlike_cut_files(details, columns, lists, stand, sorter):
    """Each row of a part once, cut by all of it."""
    return cut_by_keys([(row, row) for row in unlike_in_order(lists[0], sorter)], stand[1])


def unlike_files(details, columns, lists, stand, sorter):
    """Each row of a piece once."""
    return [unlike_in_order(at_once(lists), sorter)]


def sort_files(details, columns, lists, stand, sorter):
    """The first so many rows, in their order."""
    order, many = details
    pairs = sorter(with_places(at_once(lists), order, places_of(columns[0])))
    return [[row for _, row in pairs[:many]]]


def fold_cut_files(details, columns, lists, stand, sorter):
    """The states of a part's rows, put together by keys if that is done ahead, and cut."""
    fold, hot, is_ahead = details
    pairs = row_states(lists[0], fold, places_of(columns[0]))
    if is_ahead:
        pairs = together(pairs, fold[1], sorter)
    return spread(pairs, hot, stand[0], stand[1])


def fold_again_files(details, columns, lists, stand, sorter):
    """The states of a piece, in which only some of a hot key's may stand, put together and cut."""
    pairs = together(at_once(lists), details[1], sorter)
    return cut_by_keys([(pair[0], pair) for pair in pairs], stand[1])


def fold_files(details, columns, lists, stand, sorter):
    """The rows of a fold whose keys go into a piece."""
    return [rows_told(together(at_once(lists), details[1], sorter), details[1])]


WORKERS = {
    "read": read_files, "filter": filter_files, "map": map_files, "union": union_files, "cut": cut_files,
    "join": join_files, "unlike cut": unlike_cut_files, "unlike": unlike_files, "sort": sort_files,
    "fold cut": fold_cut_files, "fold again": fold_again_files, "fold": fold_files}


def worked_files(plan, task, lists, sorter):
    """The tuple of the rows of a task's files, of the rows of those that it reads."""
    phase, part = task
    what, details, columns = plan["phases"][phase]
    worker = WORKERS[what]
    files = worker(details, columns, lists, (part, len(plan["files"][task])), sorter)
    return tuple([tuple(rows) for rows in files])
