"""Plans: the tasks into which a job is cut, what they read and what they write."""

from countedonce.drafts import Draft, draft_read, draft_step
from countedonce.errors import BadThing
from countedonce.jobchecker import columns_of

MOST_BLOCKS = 200


def is_how(what, how):
    """Whether a thing has the form of a how of a join or of a fold."""
    if what == "join":
        return how == ()
    return isinstance(how, tuple) and all([isinstance(key, tuple) for key in how])


def check_hows(steps, hows):
    """Raise BadThing for hows of other steps than folds and joins, or of other forms."""
    whats = {step[0]: step[1] for step in steps}
    # Dicts that are equal may have their keys in unlike orders.
    for name in sorted(hows, key=str):
        if whats.get(name) not in ("fold", "join"):
            raise BadThing(name)
    for name, what in whats.items():
        if name in hows and not is_how(what, hows[name]):
            raise BadThing(name)


def check_cuts(steps, cuts):
    """Raise BadThing for a read table that is cut into too many blocks."""
    for name, what, _, _ in steps:
        if what == "read" and cuts.get(name, 1) > MOST_BLOCKS:
            raise BadThing(name)


def steps_behind(job):
    """The steps on which the answer hangs, as a dict."""
    steps, answer = job
    found = {answer: True}
    for name, _, inputs, _ in reversed(steps):
        if name in found:
            for source in inputs:
                found[source] = True
    return found


def needed_of(draft, answer):
    """The tasks on which some files hang, ascending."""
    wanted = {file: True for file in answer}
    needed = []
    for task in sorted(draft.files, reverse=True):
        if any([file in wanted for file in draft.files[task]]):
            needed.append(task)
            for file in draft.inputs[task]:
                wanted[file] = True
    return tuple(sorted(needed))


def draft_of(job, cuts, pieces, is_ahead, hows):
    """The draft of a job that is taken, and the files of its answer."""
    steps, answer = job
    columns = columns_of(job)
    behind = steps_behind(job)
    draft = Draft(pieces, is_ahead)
    files = {}
    for step in steps:
        name, what, inputs, _ = step
        if what == "read":
            files[name] = draft_read(draft, name, cuts.get(name, 1))
        elif name in behind:
            how = hows.get(name)
            if what == "fold" and how is None:
                how = ()
            sources = [files[source] for source in inputs]
            files[name] = draft_step(draft, step, [columns[source] for source in inputs], sources, how)
    return draft, files[answer]


def plan_of(job, cuts, pieces, is_ahead, hows=None):
    """The plan of a job, a dict; raises BadJob, or BadThing for hows or cuts that cannot be."""
    if hows is None:
        hows = {}
    columns_of(job)
    check_hows(job[0], hows)
    check_cuts(job[0], cuts)
    draft, answer = draft_of(job, cuts, pieces, is_ahead, hows)
    whats = {step[0]: step[1] for step in job[0]}
    return {
        "phases": tuple(draft.phases), "blocks": draft.blocks, "inputs": draft.inputs, "files": draft.files,
        "answer": tuple(answer), "is sorted": whats[job[1]] == "sort", "needed": needed_of(draft, answer)}


def phase_kinds(plan):
    """The list of what the tasks of each phase do."""
    return [phase[0] for phase in plan["phases"]]


def tasks_of(plan):
    """The ascending list of all tasks, each behind those whose files it reads."""
    return sorted(plan["files"])


def files_of(plan, task):
    """The list of the files that a task writes."""
    return list(plan["files"][task])


def inputs_of(plan, task):
    """The list of the files that a task reads."""
    return list(plan["inputs"][task])


def answer_files(plan):
    """The list of the files in which the rows of the answer stand."""
    return list(plan["answer"])


def needed_tasks(plan):
    """The ascending list of the tasks on which the answer's files hang."""
    return list(plan["needed"])
