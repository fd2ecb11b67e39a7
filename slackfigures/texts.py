"""Tables as texts: a row for each top, a word for each entry."""

from slackfigures.cells import are_looks, first_top, half_of
from slackfigures.errors import NoText


def show_entry(figure):
    """The word of an entry."""
    return "." if figure is None else str(figure)


def show_row(row):
    """The row of a top, its words parted by blanks."""
    return " ".join([show_entry(figure) for figure in row])


def show_table(table):
    """The text of the table, its rows parted by line feeds."""
    return "\n".join([show_row(row) for row in table])


def words_known(kind):
    """Each word that writes an entry of the kind, with that entry."""
    entries = [None] + list(range(-kind[1], kind[1] + 1))
    return {show_entry(figure): figure for figure in entries}


def read_row(known, many, line):
    """The row, of so many entries, that the line writes."""
    words = line.split(" ")
    if len(words) != many or not all([word in known for word in words]):
        raise NoText("a row that writes none of the table")
    return [known[word] for word in words]


def read_table(kind, looks, text):
    """The table of the kind and looks that the text writes."""
    lines = text.split("\n")
    if not are_looks(kind, looks) or len(lines) != first_top(looks):
        raise NoText("not a row for each top")
    known = words_known(kind)
    return [read_row(known, 2 * half_of(kind, looks), line) for line in lines]
