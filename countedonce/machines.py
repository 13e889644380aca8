"""Machines: what lies on their disks, what they have in work, and what they do when a letter comes."""

from countedonce.plans import files_of, inputs_of
from countedonce.tasks import task_rows

MIDDLE = -1


class Work:
    """A task that a machine has begun."""

    def __init__(self, task, wants):
        self.task = task
        self.wants = wants
        self.has = {}
        # The machines that are still to be asked for a file, the next one first.
        self.further = {}


class Machine:
    """One machine. Its disk has, for each file, how many rows it should have and those that it has."""

    def __init__(self, number):
        self.number = number
        self.is_up = True
        self.disk = {}
        self.works = []
        self.worked = 0

    def fall(self):
        """It is down; what it has in work is gone."""
        self.is_up = False
        self.works = []

    def burn(self):
        """It falls, and its disk is gone, too."""
        self.fall()
        self.disk = {}

    def rise(self):
        """It is up."""
        self.is_up = True

    def whole(self, file):
        """Whether all the rows of a file lie here."""
        if file not in self.disk:
            return False
        many, rows = self.disk[file]
        return len(rows) == many

    def whole_files(self):
        """The ascending tuple of the files that are whole here."""
        return tuple(sorted([file for file in self.disk if self.whole(file)]))

    def has_task(self, plan, task):
        """Whether all files of a task are whole here."""
        return all([self.whole(file) for file in files_of(plan, task)])

    def ready(self):
        """The first work that has all that it wants, or None."""
        for work in self.works:
            if all([file in work.has for file in work.wants]):
                return work
        return None

    def letter(self, plan, told):
        """Do what a letter asks for; returns the letters that are sent."""
        what = told[0]
        if what == "tell":
            return [self.report(told[2])]
        if what == "ask":
            return self.reply(told[2], told[3])
        if what == "work":
            return self.begin_work(plan, told[3], told[4])
        if what == "give":
            return self.take(told[2], told[3])
        return self.ask_further(told[2])

    def report(self, turn):
        """The letter that tells the middle one what is here."""
        tasks = tuple(sorted([work.task for work in self.works]))
        return ("told", MIDDLE, turn, self.number, self.whole_files(), tasks)

    def reply(self, file, asker):
        """The letters that answer one who asks for a file."""
        if self.whole(file):
            return [("give", asker, file, self.disk[file][1])]
        if asker == MIDDLE:
            return []
        return [("lack", asker, file)]

    def work_on(self, plan, task):
        """The work on a task, begun at the end of works if it does not stand there."""
        for work in self.works:
            if work.task == task:
                return work
        work = Work(task, inputs_of(plan, task))
        self.works.append(work)
        return work

    def begin_work(self, plan, task, places):
        """Begin a task, or go on with it; returns the letters that ask for what is not here."""
        # A block is never worked: its rows hang on no files.
        if self.has_task(plan, task) or not inputs_of(plan, task):
            return []
        work = self.work_on(plan, task)
        for file in work.wants:
            if self.whole(file):
                work.has[file] = self.disk[file][1]
        letters = []
        for file, machines in places:
            if file not in work.has:
                others = [machine for machine in machines if machine != self.number]
                work.further[file] = others[1:]
                letters.extend([("ask", other, file, self.number) for other in others[:1]])
        return letters

    def take(self, file, rows):
        """Each work that wants a file has it."""
        for work in self.works:
            if file in work.wants:
                work.has[file] = rows
        return []

    def ask_further(self, file):
        """The letters that ask the next ones for a file, for each work that still lacks it."""
        letters = []
        for work in self.works:
            if file in work.wants and file not in work.has and work.further.get(file):
                letters.append(("ask", work.further[file].pop(0), file, self.number))
        return letters

    def step(self, plan, torn):
        """Work the first work that is ready; torn, unless it is None, tells at which of its files the machine falls."""
        work = self.ready()
        if work is None:
            return
        self.works.remove(work)
        if self.has_task(plan, work.task):
            return
        files = files_of(plan, work.task)
        lists = task_rows(plan, work.task, [work.has[file] for file in work.wants])
        if torn is None:
            self.write(files, lists)
            self.worked += 1
        else:
            self.tear(files, lists, torn % len(files))

    def write(self, files, lists):
        """Write files, whole."""
        for file, rows in zip(files, lists):
            self.disk[file] = (len(rows), rows)

    def tear(self, files, lists, at):
        """Fall in the middle of writing the file at a place."""
        self.write(files[:at], lists[:at])
        rows = lists[at]
        self.disk[files[at]] = (len(rows), rows[:len(rows) // 2])
        self.fall()
