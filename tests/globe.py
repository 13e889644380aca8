"""A small world for tests: machines, a middle one, and the letters between them, with faults by a random source."""

from countedonce.blocks import block_files, block_of, homes_of
from countedonce.machines import Machine
from countedonce.middle import Middle
from countedonce.tasks import all_files


class Globe:
    def __init__(self, plan, blocks, machines, copies, patience):
        self.plan = plan
        self.the = all_files(plan, blocks)
        self.machines = [Machine(number) for number in range(machines)]
        for number, file in enumerate(block_files(plan)):
            name, part = block_of(plan, file)
            for home in homes_of(number, copies, machines):
                self.machines[home].disk[file] = (len(blocks[name][part]), blocks[name][part])
        self.middle = Middle(plan, machines, patience)
        self.letters = []
        self.answers = []

    def come(self, at):
        letter = self.letters.pop(at)
        if letter[1] == -1:
            if self.middle.is_up:
                self.middle.letter(letter)
        elif self.machines[letter[1]].is_up:
            self.letters.extend(self.machines[letter[1]].letter(self.plan, letter))

    def think(self):
        had = self.middle.answer
        self.letters.extend(self.middle.think())
        if had is None and self.middle.answer is not None:
            self.answers.append(self.middle.answer)

    def of_letters(self, rng):
        if self.letters:
            at = rng.randrange(len(self.letters))
            what = rng.random()
            if what < 0.7:
                self.come(at)
            elif what < 0.85:
                del self.letters[at]
            else:
                self.letters.append(self.letters[at])

    def of_machines(self, rng):
        machine = rng.choice(self.machines)
        what = rng.random()
        if what < 0.6 and machine.is_up:
            machine.step(self.plan, rng.choice((None, None, None, 0, 1, 2)))
        elif what < 0.8:
            machine.rise()
        elif what < 0.97:
            machine.fall()
        else:
            machine.burn()

    def of_middle(self, rng):
        what = rng.random()
        if what < 0.75 and self.middle.is_up:
            self.think()
        elif what < 0.95:
            self.middle.begin(rng.random() < 0.2)
        else:
            self.middle.fall()

    def play(self, rng, events):
        for _ in range(events):
            rng.choice((self.of_letters, self.of_letters, self.of_letters, self.of_machines, self.of_middle))(rng)

    def fair_round(self):
        for machine in self.machines:
            if not machine.is_up:
                machine.rise()
        self.middle.begin(False)
        while self.letters:
            self.come(0)
        for machine in self.machines:
            while machine.ready() is not None:
                machine.step(self.plan, None)
        self.think()

    def worked(self):
        return sum(machine.worked for machine in self.machines)

    def wrong(self):
        """What is whole, under way, in work or kept with other rows than those of its name."""
        found = []
        for machine in self.machines:
            found += [(file, machine.disk[file][1]) for file in machine.whole_files()]
            found += [pair for work in machine.works for pair in work.has.items()]
        found += [(letter[2], letter[3]) for letter in self.letters if letter[0] == "give"]
        return [pair for pair in found if tuple(pair[1]) != tuple(self.the[pair[0]])]

    def has_all_blocks(self):
        return all(any(machine.whole(file) for machine in self.machines) for file in block_files(self.plan))
