"""The fair end: from now on nothing falls and no letter is lost, until there is an answer."""

from countedonce.blocks import block_files
from countedonce.plans import inputs_of, needed_tasks, phase_kinds
from countedonce.scheduling import lost_blocks, places_told
from countedonce.tasks import all_files


def fair_round(world):
    """Let all rise, all letters come, all ready works be worked, and the middle one think."""
    for machine in world.machines:
        machine.rise()
    world.event("begin", 0, 0)
    while world.letters:
        world.event("come", 0, 0)
    for machine in world.machines:
        while machine.ready() is not None:
            machine.step(world.plan, None)
    world.event("think", 0, 0)


def most_rounds(plan):
    """At most so many fair rounds are needed."""
    return 2 * len(phase_kinds(plan)) + 6


def finish(world):
    """Let fair rounds be until there is an answer, or blocks are lost; returns how many."""
    rounds = 0
    is_over = world.middle.answer is not None
    while not is_over and rounds < most_rounds(world.plan):
        before = world.worked()
        fair_round(world)
        rounds += 1
        # In the first round what was told of may be old; where something was worked, it is old by now.
        is_lost = rounds > 1 and world.worked() == before and len(world.middle.lost) > 0
        is_over = is_lost or world.middle.answer is not None
    return rounds


def works_told_of(world):
    """How many works the middle one was told of, or letters under way tell it of, or order."""
    many = sum([len(tasks) for _, tasks in world.middle.told.values()])
    for told in world.letters:
        if told[0] == "work":
            many += 1
        elif told[0] == "told":
            many += len(told[5])
    return many


def most_worked(world):
    """At most so many works are done until the fair end."""
    needed = len([task for task in needed_tasks(world.plan) if inputs_of(world.plan, task)])
    held = sum([len(machine.works) for machine in world.machines])
    return 2 * needed + held + works_told_of(world)


def places_of_world(world):
    """The dict of the files that are whole on some disk to their machines, those that are down, too."""
    return places_told({machine.number: (machine.whole_files(), ()) for machine in world.machines})


def missing_blocks(world):
    """The tuple of the blocks, as tasks, that are still wanted, and whole on no disk."""
    return tuple(lost_blocks(world.plan, places_of_world(world)))


def wrong_files(world):
    """The list of the pairs (machine, file) that are whole with other rows than those of the file's name."""
    the_files = all_files(world.plan, world.blocks)
    wrong = []
    for machine in world.machines:
        for file in machine.whole_files():
            if tuple(machine.disk[file][1]) != the_files.get(file):
                wrong.append((machine.number, file))
    return wrong


def lasting_blocks(world):
    """The ascending list of the blocks' files that are whole on some disk."""
    places = places_of_world(world)
    return [file for file in block_files(world.plan) if file in places]
