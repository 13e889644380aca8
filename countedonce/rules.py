"""Rules that make another job of the same meaning out of a job."""

from countedonce.exprtrees import columns_used, with_columns
from countedonce.jobchecker import columns_of

PAST = {
    "past map": "map", "past join": "join", "past fold": "fold", "past union": "union", "past unlike": "unlike"}


def step_named(job, name):
    """The step of a name, or None."""
    for step in job[0]:
        if step[0] == name:
            return step
    return None


def is_used(job, name):
    """Whether a step is an input of some step."""
    return any([name in step[2] for step in job[0]])


def free_names(job, many):
    """So many names that no step has."""
    taken = {step[0]: True for step in job[0]}
    names = []
    number = 0
    while len(names) < many:
        name = "s" + str(number)
        if name not in taken:
            names.append(name)
        number += 1
    return names


def map_meanings(details):
    """The dict from the columns of a map to their expressions."""
    return {name: told for told, name in details}


def one_filter(step, below):
    """A filter of a filter, as one."""
    return [(step[0], "filter", below[2], ("two", "and", below[3], step[3]))]


def one_map(step, below):
    """A map of a map, as one."""
    meanings = map_meanings(below[3])
    return [(step[0], "map", below[2], tuple([(with_columns(told, meanings), name) for told, name in step[3]]))]


def has_all(names, places):
    """Whether all names are in a list or dict."""
    return all([name in places for name in names])


def filter_past(job, step, below):
    """A filter, put ahead of the step that it filters, or None."""
    told = step[3]
    if below[1] == "fold" and not has_all(columns_used(told), below[3][0]):
        return None
    if below[1] == "map":
        told = with_columns(told, map_meanings(below[3]))
    used = columns_used(told)
    columns = columns_of(job)
    names = free_names(job, len(below[2]))
    made = []
    inputs = []
    for name, source in zip(names, below[2]):
        if has_all(used, dict(columns[source])):
            made.append((name, "filter", (source,), told))
            inputs.append(name)
        else:
            inputs.append(source)
    if len(made) == 0:
        return None
    made.append((step[0], below[1], tuple(inputs), below[3]))
    return made


def narrowed(job, step):
    """A fold with a map ahead of it to the columns that it uses, or None."""
    source = step[2][0]
    keys, folds = step[3]
    used = list(keys)
    for _, told, _ in folds:
        if told is not None:
            used.extend(columns_used(told))
    columns = columns_of(job)[source]
    kept = [name for name, _ in columns if name in used]
    if len(kept) == 0 or len(kept) == len(columns):
        return None
    ahead = free_names(job, 1)[0]
    details = tuple([(("column", name), name) for name in kept])
    return [(ahead, "map", (source,), details), (step[0], "fold", (ahead,), step[3])]


def made_of(job, rule, step):
    """The steps that a rule puts in the place of a step, or None."""
    what = step[1]
    if what == "read":
        return None
    if rule == "narrow" and what == "fold":
        return narrowed(job, step)
    below = step_named(job, step[2][0])
    if rule == "and" and what == "filter" and below[1] == "filter":
        return one_filter(step, below)
    if rule == "maps" and what == "map" and below[1] == "map":
        return one_map(step, below)
    if what == "filter" and PAST.get(rule) == below[1]:
        return filter_past(job, step, below)
    return None


def first_alike(job, step):
    """The name of the first step that is told just as a step, which may be itself."""
    for other in job[0]:
        if other[1:] == step[1:]:
            return other[0]
    return step[0]


def with_input(step, old, new):
    """A step with an input in the place of another one."""
    name, what, inputs, details = step
    return (name, what, tuple([new if source == old else source for source in inputs]), details)


def without_use(job, step):
    """The job in which the first step that is told just as this one is used in its place, or None."""
    name = step[0]
    first = first_alike(job, step)
    # Two tables of the same columns are told alike, but have rows of their own.
    if step[1] == "read" or first == name or not is_used(job, name):
        return None
    return tuple([with_input(other, name, first) for other in job[0]]), job[1]


def in_place(job, name, made):
    """The job with other steps in the place of a step."""
    steps = []
    for step in job[0]:
        if step[0] == name:
            steps.extend(made)
        else:
            steps.append(step)
    return tuple(steps), job[1]


def without_step(job, name):
    """The job without a step that is neither used nor the answer, else None."""
    if name == job[1] or is_used(job, name):
        return None
    return in_place(job, name, [])


def applied(job, rule, name):
    """The job that a rule makes at the step of a name, or None if it does not hold there."""
    step = step_named(job, name)
    if step is None:
        return None
    if rule == "same":
        return without_use(job, step)
    if rule == "drop":
        return without_step(job, name)
    made = made_of(job, rule, step)
    if made is None:
        return None
    return in_place(job, name, made)
