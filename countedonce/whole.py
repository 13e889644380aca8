"""The whole: from texts of a job, of its tables and of a history to the answer."""

from countedonce.blocks import blocks_of
from countedonce.errors import BadThing
from countedonce.fair import finish
from countedonce.histories import history_by
from countedonce.jobchecker import columns_of
from countedonce.jobreader import read_job
from countedonce.judge import improved, judged
from countedonce.plans import is_how, plan_of
from countedonce.tabletexts import table_by
from countedonce.worlds import World, played


def data_told(job, tables):
    """The dict from a job's read tables to their rows; raises BadThing unless each one is told just once."""
    reads = {name: columns for name, what, _, columns in job[0] if what == "read"}
    data = {}
    for text in tables:
        name, columns, rows = table_by(text)
        if name in data or reads.get(name) != columns:
            raise BadThing(name)
        data[name] = rows
    for name in reads:
        if name not in data:
            raise BadThing(name)
    return data


def hows_left(job, hows):
    """Those hows that can be told of the steps that a job has."""
    if hows is None:
        return {}
    whats = {step[0]: step[1] for step in job[0] if step[1] in ("fold", "join")}
    return {name: how for name, how in hows.items() if name in whats and is_how(whats[name], how)}


def plan_told(job, cuts, pieces, is_ahead, is_improved, hows):
    """The plan of a job, or of what it can be improved to."""
    # The hows tell of the job's own steps, and are right or wrong of these, whether it is improved or not.
    plan = plan_of(job, cuts, pieces, is_ahead, hows)
    if not is_improved:
        return plan
    better = judged(job, improved(job))
    return plan_of(better, cuts, pieces, is_ahead, hows_left(better, hows))


def world_by(job_text, tables, choice):
    """A fresh world for the texts of a job and of its tables."""
    cuts, pieces, is_ahead, is_improved, machines, copies, patience, hows = choice
    job = read_job(job_text)
    columns_of(job)
    data = data_told(job, tables)
    plan = plan_told(job, cuts, pieces, is_ahead, is_improved, hows)
    return World(plan, blocks_of(data, cuts), machines, copies, patience)


def told_behind(world):
    """Finish a world; returns the answer, or the blocks that are lost."""
    finish(world)
    if world.middle.answer is None:
        return ("lost", world.middle.lost)
    return ("answer", tuple(world.middle.answer))


def run_all(job_text, tables, choice, history):
    """What a world tells behind a history, and the tuple of all answers that it told."""
    world = played(world_by(job_text, tables, choice), history_by(history))
    told = told_behind(world)
    return told, tuple(world.answers)
