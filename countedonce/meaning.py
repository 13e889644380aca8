"""What a job means: the rows that one patient clerk with all the tables would find."""

from countedonce.errors import BadThing
from countedonce.jobchecker import are_rows, columns_of
from countedonce.rowwork import step_rows


def check_tables(job, data):
    """Raise BadThing for the first read table whose rows are of other kinds."""
    for name, what, _, columns in job[0]:
        if what == "read" and not are_rows(data.get(name, []), columns):
            raise BadThing(name)


def meaning(job, data):
    """The list of the rows of the answer; data is a dict from read tables to rows."""
    steps, answer = job
    columns = columns_of(job)
    check_tables(job, data)
    found = {}
    answer_what = None
    for name, what, inputs, details in steps:
        if what == "read":
            found[name] = data.get(name, [])
        else:
            lists = [found[source] for source in inputs]
            found[name] = step_rows(what, details, lists, [columns[source] for source in inputs])
        if name == answer:
            answer_what = what
    if answer_what == "sort":
        return found[answer]
    return sorted(found[answer])
