"""Plans in the making: the phases of each kind of step.

A phase is (what, details, columns), columns those of the rows that its tasks read. Its task (phase, part) reads some
files and writes as many as its rows are cut into.
"""

from countedonce.jobchecker import is_row


class Draft:
    """A plan in the making."""

    def __init__(self, pieces, is_ahead):
        self.pieces = pieces
        self.is_ahead = is_ahead
        self.phases = []
        self.blocks = {}
        self.inputs = {}
        self.files = {}

    def phase(self, what, details, columns, reads, many):
        """Add a phase with a task for each list of files to read; returns the lists of their files, so many each."""
        number = len(self.phases)
        self.phases.append((what, details, tuple(columns)))
        told = []
        for part, files in enumerate(reads):
            self.inputs[(number, part)] = tuple(files)
            self.files[(number, part)] = tuple([(number, part, piece) for piece in range(many)])
            told.append(self.files[(number, part)])
        return told

    def whole(self, what, details, columns, reads):
        """Add a phase whose tasks write a file each; returns these files."""
        return [files[0] for files in self.phase(what, details, columns, reads, 1)]

    def cut(self, what, details, columns, reads):
        """Add a phase whose tasks cut their rows into pieces; returns for each piece the files that have of it."""
        told = self.phase(what, details, columns, reads, self.pieces)
        return [[files[piece] for files in told] for piece in range(self.pieces)]


def one_by_one(files):
    """Lists of a file each."""
    return [[file] for file in files]


def draft_read(draft, name, many):
    """Add the blocks of a read table; returns their files."""
    files = draft.whole("read", name, (), [[] for _ in range(many)])
    for number, file in enumerate(files):
        draft.blocks[file] = (name, number)
    return files


def hot_ones(details, columns, how):
    """The hot keys of a fold that can be keys of it, ascending."""
    kinds = dict(columns)
    keys = [(name, kinds[name]) for name in details[0]]
    return tuple(sorted(set([key for key in how if is_row(key, keys)])))


def draft_fold(draft, details, columns, files, how):
    """Add the phases of a fold: states cut by their keys, those of hot keys once more, and then put together."""
    hot = hot_ones(details, columns[0], how)
    reads = draft.cut("fold cut", (details, hot, draft.is_ahead), columns, one_by_one(files))
    if hot:
        reads = draft.cut("fold again", details, columns, reads)
    return draft.whole("fold", details, columns, reads)


def draft_join(draft, details, columns, ones, others, is_near):
    """Add the phases of a join: near, or both sides cut by their keys."""
    if is_near:
        return draft.whole("join", (details, 1), columns, [[file] + others for file in ones])
    one_cut = draft.cut("cut", details, columns[:1], one_by_one(ones))
    other_cut = draft.cut("cut", details, columns[1:], one_by_one(others))
    reads = [one_cut[piece] + other_cut[piece] for piece in range(draft.pieces)]
    return draft.whole("join", (details, len(ones)), columns, reads)


def draft_unlike(draft, details, columns, files):
    """Add the phases of an unlike: rows that are unlike in their part, cut by all of the row, and then in all."""
    reads = draft.cut("unlike cut", details, columns, one_by_one(files))
    return draft.whole("unlike", details, columns, reads)


def draft_sort(draft, details, columns, files):
    """Add the phases of a sort: the first ones of each part, and then of all."""
    firsts = draft.whole("sort", details, columns, one_by_one(files))
    return draft.whole("sort", details, columns, [firsts])


def draft_step(draft, step, columns, sources, how):
    """Add the phases of a step that is no read, of the files of its inputs; returns its files."""
    _, what, _, details = step
    if what == "fold":
        return draft_fold(draft, details, columns, sources[0], how)
    if what == "join":
        return draft_join(draft, details, columns, sources[0], sources[1], how is not None)
    if what == "unlike":
        return draft_unlike(draft, details, columns, sources[0])
    if what == "sort":
        return draft_sort(draft, details, columns, sources[0])
    # A filter or map of one table; a union of two takes over the rows of both.
    files = [file for source in sources for file in source]
    return draft.whole(what, details, columns, one_by_one(files))
