"""Tables, written as texts and read from them."""

from countedonce.errors import BadText, BadThing
from countedonce.jobchecker import are_rows
from countedonce.jobreader import read_table_head
from countedonce.jobwriting import table_head
from countedonce.pieces import MOST_FIGURES, Line, is_name

MOST_COLUMNS = 60


def is_column(thing):
    """Whether a thing is a column's name with its kind."""
    return isinstance(thing, tuple) and len(thing) == 2 and is_name(thing[0]) and thing[1] in ("int", "text")


def are_columns(thing):
    """Whether a thing is the columns of a table that a text can tell."""
    if not isinstance(thing, (list, tuple)) or not 1 <= len(thing) <= MOST_COLUMNS:
        return False
    return all([is_column(column) for column in thing])


def has_text(value):
    """Whether a text can tell a value."""
    if isinstance(value, str):
        return "\"" not in value and "\n" not in value
    return len(str(abs(value))) <= MOST_FIGURES


def value_text(value):
    """The text of a value."""
    if isinstance(value, str):
        return "\"" + value + "\""
    return str(value)


def row_text(row):
    """The line of a row."""
    return ", ".join([value_text(value) for value in row])


def table_text(name, columns, rows):
    """A text that is read as a table; raises BadThing where there is none."""
    if not is_name(name):
        raise BadThing(name)
    if not are_columns(columns):
        raise BadThing(columns)
    if not are_rows(rows, columns):
        raise BadThing(rows)
    for row in rows:
        if not all([has_text(value) for value in row]):
            raise BadThing(row)
    return "\n".join([table_head(name, columns)] + [row_text(row) for row in rows])


def read_value(line, kind):
    """A value of a kind."""
    if kind == "text":
        return line.take("quoted")
    if line.took("-"):
        return -line.take("number")
    return line.take("number")


def read_row(line, columns):
    """A row of these columns."""
    values = []
    for _, kind in columns:
        if values:
            line.expect(",")
        values.append(read_value(line, kind))
    return tuple(values)


def table_by(text):
    """The name, the columns and the rows that a text tells; raises BadText where the text is wrong."""
    if not isinstance(text, str):
        raise BadText(0, 0)
    head = None
    rows = []
    for at, told in enumerate(text.split("\n")):
        line = Line(told, at + 1)
        if not line.is_kind("end"):
            if head is None:
                head = read_table_head(line)
            else:
                rows.append(read_row(line, head[1]))
            line.expect_end()
    if head is None:
        raise BadText(1, 1)
    return head[0], head[1], rows
