"""Origins: a few blocks out of which alone a row of the answer is told."""

from countedonce.errors import BadThing
from countedonce.jobchecker import columns_of, is_row
from countedonce.meaning import meaning
from countedonce.values import is_of_kind


def data_of(blocks, pairs):
    """The dict from read tables to the rows of some blocks, told as pairs."""
    data = {}
    for name, number in pairs:
        data.setdefault(name, []).extend(blocks[name][number])
    return data


def is_told(job, blocks, row, pairs):
    """Whether a row is in the answer out of some blocks alone."""
    # To Python True is equal to 1, but it is none of the answer's values.
    return is_row(row, columns_of(job)[job[1]]) and row in meaning(job, data_of(blocks, pairs))


def all_pairs(job, blocks):
    """The ascending list of all blocks of a job's read tables, as pairs."""
    pairs = []
    for name, what, _, _ in job[0]:
        if what == "read":
            pairs.extend([(name, number) for number in range(len(blocks.get(name, ())))])
    return sorted(pairs)


def with_fewer(job, blocks, row, pairs, size):
    """Some blocks, from the first ones on without each so many in a row without which a row is told still."""
    at = 0
    while at < len(pairs):
        fewer = pairs[:at] + pairs[at + size:]
        if is_told(job, blocks, row, fewer):
            pairs = fewer
        else:
            at += size
    return pairs


def origins_of(job, blocks, row):
    """An ascending tuple of blocks out of which alone a row is told, and without any one of which it isn't."""
    pairs = all_pairs(job, blocks)
    if not is_told(job, blocks, row, pairs):
        raise BadThing(row)
    # Many at once first, as there may be many blocks on which the row does not hang.
    size = len(pairs)
    while size > 0:
        fewer = with_fewer(job, blocks, row, pairs, size)
        # One by one it goes on as long as there get fewer: without one of them, others may be of no use any more.
        if size > 1 or len(fewer) == len(pairs):
            size = size // 2
        pairs = fewer
    return tuple(pairs)


def are_pairs(thing, pairs):
    """Whether a thing is a tuple of some of these pairs."""
    return isinstance(thing, tuple) and all([pair in pairs and is_of_kind(pair[1], "int") for pair in thing])


def are_origins(job, blocks, row, thing):
    """Whether a thing is an ascending tuple of just such blocks as origins_of tells of."""
    if not are_pairs(thing, all_pairs(job, blocks)):
        return False
    if list(thing) != sorted(set(thing)) or not is_told(job, blocks, row, thing):
        return False
    return not any([is_told(job, blocks, row, thing[:at] + thing[at + 1:]) for at in range(len(thing))])
