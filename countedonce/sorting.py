"""Sorting with room for a few rows at once: runs are sorted, and then merged round by round."""

from heapq import heappush, heappop

from countedonce.errors import BadThing


def check_room(memory, width):
    """Raise BadThing for a memory without a row, or a width with which runs get no fewer."""
    if memory < 1:
        raise BadThing(memory)
    if width < 2:
        raise BadThing(width)


def runs_of(rows, at, memory):
    """Sorted runs of at most so many rows."""
    runs = []
    for start in range(0, len(rows), memory):
        runs.append(sorted(rows[start:start + memory], key=lambda row: (row[at], row)))
    return runs


def merged(runs, at):
    """The rows of sorted runs, none of them without rows, as one run."""
    heads = []
    for number, run in enumerate(runs):
        heappush(heads, (run[0][at], run[0], number, 0))
    rows = []
    while heads:
        _, row, number, place = heappop(heads)
        rows.append(row)
        if place + 1 < len(runs[number]):
            row = runs[number][place + 1]
            heappush(heads, (row[at], row, number, place + 1))
    return rows


def sorted_in_runs(rows, at, memory, width):
    """The rows sorted by the value at a place, then by all; the rounds; the most rows or runs held at once."""
    check_room(memory, width)
    runs = runs_of(rows, at, memory)
    most = max([len(run) for run in runs], default=0)
    rounds = 0
    while len(runs) > 1:
        groups = [runs[start:start + width] for start in range(0, len(runs), width)]
        most = max([most] + [len(group) for group in groups])
        runs = [merged(group, at) for group in groups]
        rounds += 1
    if not runs:
        return [], rounds, most
    return runs[0], rounds, most


def rounds_for(many, memory, width):
    """The number of rounds in which so many rows are sorted."""
    check_room(memory, width)
    runs = (many + memory - 1) // memory
    rounds = 0
    while runs > 1:
        runs = (runs + width - 1) // width
        rounds += 1
    return rounds
