"""The middle one, which gives the orders and tells the answer."""

from countedonce.machines import MIDDLE
from countedonce.plans import answer_files, inputs_of
from countedonce.scheduling import lost_blocks, orders_for, places_told
from countedonce.tasks import answer_of


class Middle:
    """The middle one. Its journal alone outlives a fall: from it alone no turn is ever taken twice."""

    def __init__(self, plan, machines, patience):
        self.plan = plan
        self.machines = machines
        self.patience = patience
        self.journal = []
        self.is_up = False
        self.turn = (0, 0)
        self.told = {}
        self.kept = {}
        self.ages = {}
        self.answer = None
        self.lost = ()

    def begin(self, is_torn):
        """Write a line into the journal, if it is down; it is up behind a line that is not torn."""
        if self.is_up:
            return
        self.journal.append(not is_torn)
        if not is_torn:
            self.is_up = True
            self.turn = (len(self.journal), 0)

    def fall(self):
        """All but the journal is gone."""
        self.is_up = False
        self.turn = (0, 0)
        self.told = {}
        self.kept = {}
        self.ages = {}
        self.answer = None
        self.lost = ()

    def letter(self, told):
        """Keep what a letter gives of the answer, or tells in this turn."""
        if told[0] == "give":
            if told[2] in answer_files(self.plan):
                self.kept[told[2]] = told[3]
        elif told[2] == self.turn:
            self.told[told[3]] = (told[4], told[5])

    def think(self):
        """Tell the answer if all of it is kept; returns the letters that are sent."""
        files = answer_files(self.plan)
        if self.answer is None and all([file in self.kept for file in files]):
            self.answer = answer_of(self.plan, self.kept)
        places = places_told(self.told)
        self.turn = (self.turn[0], self.turn[1] + 1)
        letters = [("ask", places[file][0], file, MIDDLE) for file in files
                   if file in places and file not in self.kept]
        self.lost = ()
        if self.answer is None:
            if len(self.told) == self.machines:
                self.lost = tuple(lost_blocks(self.plan, places))
            letters.extend(self.orders(places))
            letters.extend([("tell", machine, self.turn) for machine in range(self.machines)])
        self.told = {}
        return letters

    def orders(self, places):
        """The letters of the orders; the tasks' ages are what they are behind them."""
        ages = {}
        letters = []
        for task, machine, is_new in orders_for(self.plan, self.told, self.ages, self.patience):
            told = tuple([(file, places[file]) for file in inputs_of(self.plan, task)])
            letters.append(("work", machine, self.turn, task, told))
            # Of a task's orders a new one stands last.
            ages[task] = 0 if is_new else self.ages.get(task, 0) + 1
        self.ages = ages
        return letters
