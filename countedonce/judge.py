"""Papers of rules: which of them are let by, and one that makes a job better."""

from countedonce.errors import BadPaper
from countedonce.exprtrees import how_many, is_large
from countedonce.jobchecker import columns_of
from countedonce.rules import applied

MOST_STEPS = 150
MOST_IN_ALL = 250
MOST_ROWS = 60
# In this order a step is rather left out, or made one with another, than worked on.
BETTER_RULES = (
    "drop", "same", "and", "maps", "past map", "past unlike", "past union", "past join", "past fold", "narrow")


def expressions_of(step):
    """The expressions of a filter or map; none of another step."""
    if step[1] == "filter":
        return [step[3]]
    if step[1] == "map":
        return [told for told, _ in step[3]]
    return []


def is_large_step(step):
    """Whether a filter or map has more expressions than a line of a job's text has room for."""
    tolds = expressions_of(step)
    # With each expression may stand "as", a name and a comma: three pieces more.
    return any([is_large(told) for told in tolds]) or sum([how_many(told) + 3 for told in tolds]) > MOST_IN_ALL


def is_large_job(job):
    """Whether a job is larger than the judge lets by."""
    return len(job[0]) > MOST_STEPS or any([is_large_step(step) for step in job[0]])


def is_pair(row):
    """Whether a thing is a pair of texts."""
    return isinstance(row, tuple) and len(row) == 2 and all([isinstance(word, str) for word in row])


def made_by(job, row):
    """The job that a row of a paper makes, or None if it is not let by."""
    if not is_pair(row):
        return None
    made = applied(job, row[0], row[1])
    if made is None or is_large_job(made):
        return None
    return made


def judged(job, paper):
    """The job that a paper makes; raises BadJob, or BadPaper for the first row that is not let by."""
    columns_of(job)
    for at, row in enumerate(paper):
        made = made_by(job, row)
        if made is None:
            raise BadPaper(at)
        job = made
    return job


def is_for_one(job, step):
    """Whether the first input of a step serves nothing else, so that it can be left out behind it."""
    if len(step[2]) == 0:
        return False
    name = step[2][0]
    uses = sum([list(other[2]).count(name) for other in job[0]])
    return uses == 1 and job[1] != name


def is_better(job, rule, step):
    """Whether it is worth while to try a rule at a step."""
    if rule == "drop":
        # Without its read, wrong rows of a table would not be told any more.
        return step[1] != "read"
    return rule in ("same", "narrow") or is_for_one(job, step)


def next_row(job):
    """The next row of a paper that makes a job better, or None."""
    for rule in BETTER_RULES:
        for step in job[0]:
            row = (rule, step[0])
            if is_better(job, rule, step) and made_by(job, row) is not None:
                return row
    return None


def improved(job):
    """A paper that makes a job better, and is let by."""
    columns_of(job)
    paper = []
    row = next_row(job)
    while row is not None and len(paper) < MOST_ROWS:
        paper.append(row)
        job = made_by(job, row)
        row = next_row(job)
    return tuple(paper)
