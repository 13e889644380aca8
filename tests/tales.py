"""Worlds, and histories drawn for them, for tests."""

import copy

from countedonce.worlds import World, played
from tests import makers
from tests.plots import random_plots

FAULTS = {"lose": 3, "double": 4, "fall": 2, "rise": 6, "burn": 1, "tear": 3, "stop": 2, "begin torn": 1, "step": 3}
KINDS = tuple(FAULTS) + ("come", "think", "begin")


def number(rng):
    """A number, often above how many letters and machines there are."""
    return rng.choice((0, 0, rng.randint(0, 9), rng.randint(0, 10 ** 6)))


def fault(rng, faults):
    """Something that goes wrong; what is down is sometimes up again at once, and asked for what it has no more."""
    told = [(rng.choice(faults), number(rng), rng.randint(0, 5))]
    return told + [("rise", told[0][1], 0)] * rng.randint(0, 1)


def some_round(rng, faults, likely):
    """Something like a round: letters come, machines step, the middle one thinks, and here and there a fault."""
    told = []
    at = rng.choice((0, 0, 1, 7))
    steps = [("step", machine, 0) for machine in range(rng.randint(1, 12))]
    for event in [("come", at, 0)] * rng.randint(0, 60) + steps + [("begin", 0, 0), ("think", 0, 0)]:
        if rng.random() < likely:
            told.extend(fault(rng, faults))
        told.append(event)
    return told


def events(rng, many):
    """A history of so many events."""
    kinds = rng.sample(sorted(FAULTS), rng.randint(1, len(FAULTS)))
    faults = [kind for kind in kinds for _ in range(FAULTS[kind])]
    likely = rng.choice((0.003, 0.01, 0.03, 0.1))
    told = []
    while len(told) < many:
        told.extend(some_round(rng, faults, likely))
    return told[:many]


def world_of(rng, plan, blocks):
    return World(plan, blocks, rng.choice((1, 2, 3, 4, 5, 12)), rng.randint(1, 4), rng.randint(1, 3))


def worlds(seeds, lengths=(0, 5, 30, 100, 300, 600, 1500), most=5):
    """Drawn worlds behind drawn histories: (seed, rng, job, data, world)."""
    for seed, job, data, plan, blocks in random_plots(seeds, most):
        rng = makers.source(seed + 1)
        yield seed, rng, job, data, played(world_of(rng, plan, blocks), events(rng, rng.choice(lengths)))


def seen_machine(machine):
    works = [(work.task, list(work.wants), dict(work.has)) for work in machine.works]
    return machine.number, machine.is_up, dict(machine.disk), works, machine.worked


def seen_middle(middle):
    return copy.deepcopy({name: value for name, value in vars(middle).items() if name != "plan"})


def seen(world):
    """All that can be seen of a world, which stays so when the world goes on."""
    return ([seen_machine(machine) for machine in world.machines], seen_middle(world.middle), list(world.letters),
            list(world.answers))
