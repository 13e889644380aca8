"""Which tasks are ordered of whom, by what the machines told."""

from countedonce.plans import answer_files, files_of, inputs_of, tasks_of


def places_told(told):
    """The dict of the files that some machine told of to the ascending tuple of these machines."""
    found = {}
    for machine in sorted(told):
        for file in told[machine][0]:
            found.setdefault(file, []).append(machine)
    return {file: tuple(machines) for file, machines in found.items()}


def all_stand(files, places):
    """Whether all of some files stand somewhere."""
    return all([bool(places.get(file)) for file in files])


def wanted_tasks(plan, places):
    """The ascending list of the tasks that do not stand, and of which a file is the answer's or a wanted task's."""
    asked = {file: True for file in answer_files(plan)}
    wanted = []
    # Whoever reads a task's files stands behind it.
    for task in reversed(tasks_of(plan)):
        files = files_of(plan, task)
        if any([file in asked for file in files]) and not all_stand(files, places):
            wanted.append(task)
            for file in inputs_of(plan, task):
                asked[file] = True
    return sorted(wanted)


def ready_tasks(plan, places):
    """The ascending list of the wanted tasks, blocks apart, for which all that they read stands somewhere."""
    ready = []
    for task in wanted_tasks(plan, places):
        files = inputs_of(plan, task)
        if files and all_stand(files, places):
            ready.append(task)
    return ready


def lost_blocks(plan, places):
    """The ascending list of the wanted blocks, as tasks, which stand nowhere."""
    return [task for task in wanted_tasks(plan, places) if not inputs_of(plan, task)]


def best_machine(plan, task, places, machines, loads):
    """That of some machines of which a task is newly ordered; loads tells how many works each one has."""
    reads = {machine: 0 for machine in loads}
    for file in inputs_of(plan, task):
        for machine in places[file]:
            reads[machine] += 1
    return min([(-reads[machine], loads[machine], machine) for machine in machines])[2]


def orders_for(plan, told, ages, patience):
    """The orders of a thought: triples of a task, a machine, and whether the order is a new one."""
    places = places_told(told)
    loads = {machine: len(pair[1]) for machine, pair in told.items()}
    orders = []
    for task in ready_tasks(plan, places):
        workers = [machine for machine in sorted(told) if task in told[machine][1]]
        others = [machine for machine in told if machine not in workers]
        orders.extend([(task, machine, False) for machine in workers])
        if others and (not workers or ages.get(task, 0) > patience):
            machine = best_machine(plan, task, places, others, loads)
            loads[machine] += 1
            orders.append((task, machine, True))
    return orders
