"""Answers once more, where some blocks have other rows: what hangs on no such block stays as it is."""

from countedonce.blocks import block_counts, block_files
from countedonce.errors import BadThing
from countedonce.plans import files_of, inputs_of, needed_tasks, tasks_of
from countedonce.tasks import answer_of, block_rows, rows_behind


def check_numbers_of_blocks(plan, old, new):
    """Raise BadThing for a table with another number of blocks than before."""
    # The plan's tables stand ahead of all others, in the order of the job's reads.
    for name in list(block_counts(plan)) + sorted(list(old) + list(new)):
        if len(old.get(name, ())) != len(new.get(name, ())):
            raise BadThing(name)


def changed_blocks(plan, old, new):
    """The ascending list of the tasks of blocks with other rows, or with rows in another order."""
    check_numbers_of_blocks(plan, old, new)
    changed = []
    for file in block_files(plan):
        if block_rows(plan, old, file) != block_rows(plan, new, file):
            changed.append(file[:2])
    return changed


def hanging_tasks(plan, changed):
    """The ascending list of some tasks and of all that hang on them."""
    found = {task: True for task in changed}
    for task in tasks_of(plan):
        if any([file[:2] in found for file in inputs_of(plan, task)]):
            found[task] = True
    return sorted(found)


def answer_again(plan, files, old, new):
    """The answer of new blocks, and how many tasks were worked for it; files are those of the old blocks."""
    changed = changed_blocks(plan, old, new)
    found = {file: files[file] for file in files}
    # The files that have other rows now: a task that reads none of them would tell the same.
    moved = {}
    worked = 0
    for task in needed_tasks(plan):
        reads = inputs_of(plan, task)
        if task in changed or any([file in moved for file in reads]):
            if reads:
                worked += 1
            for file, rows in zip(files_of(plan, task), rows_behind(plan, new, found, task)):
                if tuple(found[file]) != rows:
                    moved[file] = True
                found[file] = rows
    return answer_of(plan, found), worked
