"""What tasks do, and the plain working of a plan: all of its tasks, one behind another."""

from countedonce.blocks import block_of
from countedonce.foldwork import plainly
from countedonce.plans import answer_files, files_of, inputs_of, tasks_of
from countedonce.taskwork import worked_files


def task_rows(plan, task, lists):
    """The tuple of the rows of a task's files, of the rows of those that it reads."""
    return worked_files(plan, task, lists, plainly)


def block_rows(plan, blocks, file):
    """The rows of a block; a table that blocks lacks has none."""
    name, number = block_of(plan, file)
    if name not in blocks:
        return ()
    return tuple(blocks[name][number])


def rows_behind(plan, blocks, found, task):
    """The tuple of the rows of a task's files, of those that it reads and are found, or of its block."""
    reads = inputs_of(plan, task)
    if not reads:
        return tuple([block_rows(plan, blocks, file) for file in files_of(plan, task)])
    return task_rows(plan, task, [found[source] for source in reads])


def all_files(plan, blocks):
    """The dict of all files of a plan to their rows."""
    found = {}
    for task in tasks_of(plan):
        for file, rows in zip(files_of(plan, task), rows_behind(plan, blocks, found, task)):
            found[file] = rows
    return found


def answer_of(plan, files):
    """The list of the rows of the answer, out of a dict that has its files."""
    rows = [row for file in answer_files(plan) for row in files[file]]
    if plan["is sorted"]:
        return rows
    return sorted(rows)


def plain_answer(plan, blocks):
    """The list of the rows of the answer, worked out in one place."""
    return answer_of(plan, all_files(plan, blocks))
