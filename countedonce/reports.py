"""Reports: how far a world is, and texts for people."""

from countedonce.plans import answer_files, files_of, needed_tasks, phase_kinds, tasks_of
from countedonce.tabletexts import row_text


def state_of(world, task):
    """Whether a task is done, held or open."""
    if any([machine.has_task(world.plan, task) for machine in world.machines]):
        return "done"
    if any([work.task == task for machine in world.machines for work in machine.works]):
        return "held"
    return "open"


def states_of(world):
    """The dict of the needed tasks, ascending, to whether they are done, held or open."""
    return {task: state_of(world, task) for task in needed_tasks(world.plan)}


def progress(world):
    """How many tasks are needed, how many of these are done, and how many held."""
    states = list(states_of(world).values())
    return (len(states), states.count("done"), states.count("held"))


def phase_text(plan, phase, kind):
    """A line that tells of a phase."""
    tasks = [task for task in tasks_of(plan) if task[0] == phase]
    files = sum([len(files_of(plan, task)) for task in tasks])
    return f"phase {phase}: {kind}, {len(tasks)} tasks, {files} files"


def plan_text(plan):
    """A text that tells people of a plan."""
    lines = [f"{len(tasks_of(plan))} tasks, {len(needed_tasks(plan))} of them needed"]
    for phase, kind in enumerate(phase_kinds(plan)):
        lines.append(phase_text(plan, phase, kind))
    names = [".".join([str(number) for number in file]) for file in answer_files(plan)]
    lines.append("the answer stands in " + ", ".join(names))
    return "\n".join(lines)


def answer_text(answer):
    """A text that tells people an answer, a list of rows, or None."""
    if answer is None:
        return "no answer yet"
    return "\n".join([f"{len(answer)} rows"] + [row_text(row) for row in answer])


def is_up_text(thing):
    """Whether a machine or the middle one is up, as a word."""
    if thing.is_up:
        return "up"
    return "down"


def machine_text(machine):
    """A line that tells of a machine."""
    name = f"machine {machine.number}: {is_up_text(machine)}, "
    return name + f"{len(machine.whole_files())} whole files, {len(machine.works)} in work, {machine.worked} worked"


def world_text(world):
    """A text that tells people of a world."""
    needed, done, held = progress(world)
    lines = [f"{needed} tasks needed: {done} done, {held} held, {needed - done - held} open"]
    lines.extend([machine_text(machine) for machine in world.machines])
    middle = world.middle
    begun = f"{len(middle.journal)} times begun"
    lines.append(f"the middle one: {is_up_text(middle)}, {begun}, {len(middle.lost)} blocks lost")
    lines.append(f"{len(world.letters)} letters under way, {len(world.answers)} answers told")
    lines.append(answer_text(world.middle.answer))
    return "\n".join(lines)
