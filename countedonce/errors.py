"""The errors that the package tells."""


class BatchError(Exception):
    """Every error of this package is one of these."""


class BadThing(BatchError):
    """Something that was passed is not as it must be."""

    def __init__(self, thing):
        self.thing = thing


class BadText(BatchError):
    """A text is wrong at a line and a column, both counted from 1."""

    def __init__(self, line, column):
        self.line = line
        self.column = column


class BadJob(BatchError):
    """A step of a job is wrong."""

    def __init__(self, name, why):
        self.name = name
        self.why = why


class BadPaper(BatchError):
    """A row of a paper is not let by; the first row has the number 0."""

    def __init__(self, at):
        self.at = at
