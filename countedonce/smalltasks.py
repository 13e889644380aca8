"""What tasks do with little memory."""

from countedonce.sorting import check_room, sorted_in_runs
from countedonce.taskwork import worked_files


def task_rows_small(plan, task, lists, memory, width):
    """The same as task_rows tells; whatever the task sorts, it sorts in runs of at most memory rows."""
    check_room(memory, width)
    # Whatever tasks sort are tuples: those sorted by their first thing, and then by all, are sorted by all.
    return worked_files(plan, task, lists, lambda rows: sorted_in_runs(rows, 0, memory, width)[0])
