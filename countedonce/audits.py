"""Audits: whether files and an answer, whoever told them, are the right ones."""

from countedonce.plans import files_of, needed_tasks
from countedonce.tasks import answer_of, rows_behind


def are_right(plan, blocks, files, task):
    """Whether a task's files are all there, with the right rows in their order."""
    for file, rows in zip(files_of(plan, task), rows_behind(plan, blocks, files, task)):
        told = files.get(file)
        if not isinstance(told, (list, tuple)) or tuple(told) != rows:
            return False
    return True


def wrong_task(plan, blocks, files):
    """The first needed task whose files are not the right ones, or None."""
    # Ascending: what a task reads was found right ahead of it.
    for task in needed_tasks(plan):
        if not are_right(plan, blocks, files, task):
            return task
    return None


def audited(plan, blocks, files, answer):
    """Whether all needed files are right, and an answer is theirs."""
    if wrong_task(plan, blocks, files) is not None or not isinstance(answer, (list, tuple)):
        return False
    return list(answer) == answer_of(plan, files)


def files_in(world):
    """The dict of the files that are whole on some disk to their rows."""
    found = {}
    for machine in world.machines:
        for file in machine.whole_files():
            found[file] = machine.disk[file][1]
    return {file: found[file] for file in sorted(found)}
