"""Costs: how long blocks are, how many rows are read and cut, how long the way to the answer is."""

from countedonce.blocks import blocks_of
from countedonce.errors import BadThing
from countedonce.plans import files_of, inputs_of, needed_tasks, phase_kinds

# The phases whose tasks cut rows or states into pieces.
CUTTING = ("cut", "fold cut", "fold again", "unlike cut")


def cuts_for(data, most):
    """The dict from tables to the fewest blocks, one at least, of at most so many rows."""
    if most < 1:
        raise BadThing(most)
    return {name: max(1, (len(rows) + most - 1) // most) for name, rows in data.items()}


def longest_block(data, cuts):
    """The most rows of a block."""
    return max([len(block) for blocks in blocks_of(data, cuts).values() for block in blocks], default=0)


def rows_in(files, names):
    """How many rows some files have; one that is named twice counts twice."""
    return sum([len(files[name]) for name in names])


def rows_read(plan, files):
    """How many rows the needed tasks read, added up task by task."""
    return sum([rows_in(files, inputs_of(plan, task)) for task in needed_tasks(plan)])


def rows_cut(plan, files):
    """How many rows, or states, stand in the pieces into which the needed tasks cut."""
    kinds = phase_kinds(plan)
    return sum([rows_in(files, files_of(plan, task)) for task in needed_tasks(plan) if kinds[task[0]] in CUTTING])


def longest_way(plan):
    """How many needed tasks stand behind one another at most, blocks not counted."""
    ways = {}
    for task in needed_tasks(plan):
        ways[task] = max([ways[file[:2]] + 1 for file in inputs_of(plan, task)], default=0)
    return max(ways.values())


def rounds_in_peace(plan):
    """At most so many fair rounds are needed from a fresh world."""
    return 2 * longest_way(plan) + 3


def works_in_peace(plan):
    """Just so many works are done from a fresh world: each needed task but blocks once."""
    return len([task for task in needed_tasks(plan) if inputs_of(plan, task)])
