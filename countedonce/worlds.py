"""Worlds: machines, the middle one and the letters between them, and whatever happens to these."""

from countedonce.blocks import block_counts, block_files, homes_of
from countedonce.errors import BadThing
from countedonce.machines import MIDDLE, Machine
from countedonce.middle import Middle
from countedonce.tasks import block_rows

MOST_MACHINES = 12
OF_LETTERS = ("come", "lose", "double")
OF_MACHINES = ("fall", "rise", "burn", "step", "tear")


def check_blocks(plan, blocks):
    """Raise BadThing for a read table of a plan with another number of blocks."""
    for name, many in block_counts(plan).items():
        if len(blocks.get(name, ())) != many:
            raise BadThing(name)


def check_numbers(machines, copies, patience):
    """Raise BadThing for numbers with which there is no world."""
    for number in (machines, copies, patience):
        if number < 1:
            raise BadThing(number)
    if machines > MOST_MACHINES:
        raise BadThing(machines)


class World:
    """Machines, the middle one, the letters under way, and the answers that were told."""

    def __init__(self, plan, blocks, machines, copies, patience):
        check_blocks(plan, blocks)
        check_numbers(machines, copies, patience)
        self.plan = plan
        self.blocks = blocks
        self.machines = [Machine(number) for number in range(machines)]
        self.middle = Middle(plan, machines, patience)
        self.letters = []
        self.answers = []
        for number, file in enumerate(block_files(plan)):
            rows = block_rows(plan, blocks, file)
            for home in homes_of(number, copies, machines):
                self.machines[home].disk[file] = (len(rows), rows)

    def worked(self):
        """How many works all machines did."""
        return sum([machine.worked for machine in self.machines])

    def event(self, kind, at, more):
        """Let something happen to a letter, to a machine, or to the middle one."""
        if kind in OF_LETTERS:
            if self.letters:
                self.of_letter(kind, at % len(self.letters))
        elif kind in OF_MACHINES:
            self.of_machine(kind, self.machines[at % len(self.machines)], more)
        elif kind == "think":
            self.think()
        elif kind == "stop":
            self.middle.fall()
        elif kind in ("begin", "begin torn"):
            self.middle.begin(kind == "begin torn")

    def of_letter(self, kind, at):
        """Let something happen to the letter at a place."""
        if kind == "come":
            self.come(self.letters.pop(at))
        elif kind == "lose":
            self.letters.pop(at)
        else:
            self.letters.append(self.letters[at])

    def come(self, told):
        """Bring a letter to its receiver; if that is down, nothing is done."""
        receiver = told[1]
        if receiver == MIDDLE:
            if self.middle.is_up:
                self.middle.letter(told)
        elif self.machines[receiver].is_up:
            self.letters.extend(self.machines[receiver].letter(self.plan, told))

    def of_machine(self, kind, machine, more):
        """Let something happen to a machine."""
        if kind == "fall":
            machine.fall()
        elif kind == "rise":
            machine.rise()
        elif kind == "burn":
            machine.burn()
        elif machine.is_up:
            machine.step(self.plan, more if kind == "tear" else None)

    def think(self):
        """Let the middle one think, if it is up, and keep in mind an answer that it tells."""
        if not self.middle.is_up:
            return
        had = self.middle.answer
        self.letters.extend(self.middle.think())
        if had is None and self.middle.answer is not None:
            self.answers.append(tuple(self.middle.answer))


def played(world, events):
    """The world, in which some events were let be."""
    for kind, at, more in events:
        world.event(kind, at, more)
    return world
