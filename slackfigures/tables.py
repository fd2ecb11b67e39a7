"""Tables: a figure, or None, for each cell."""

from slackfigures.cells import are_looks, first_top, half_of, met_sheet
from slackfigures.kinds import is_figure
from slackfigures.spans import first_wrong, plain_rows


def is_entry(kind, thing):
    """Whether the thing, any one, may stand at a cell."""
    return thing is None or is_figure(kind, thing)


def is_table_row(kind, looks, thing):
    """Whether the thing, any one, may be the row of a top."""
    if not isinstance(thing, list) or len(thing) != 2 * half_of(kind, looks):
        return False
    return all([is_entry(kind, within) for within in thing])


def is_table(kind, looks, thing):
    """Whether the thing, any one, is a table of the kind and looks."""
    if not are_looks(kind, looks):
        return False
    if not isinstance(thing, list) or len(thing) != first_top(looks):
        return False
    return all([is_table_row(kind, looks, row) for row in thing])


def entry(kind, looks, table, cell):
    """What stands in the table at the cell: a figure or None."""
    top, look = cell
    return table[top - first_top(looks)][look + half_of(kind, looks)]


def put_entry(kind, looks, table, cell, figure):
    """Changes what stands in the table at the cell."""
    top, look = cell
    table[top - first_top(looks)][look + half_of(kind, looks)] = figure


def copy_of_table(table):
    """A table like this one that shares no list with it."""
    return [list(row) for row in table]


def first_fault(kind, looks, sight, table):
    """The first met cell at which no good figure stands, or None."""
    return first_wrong(half_of(kind, looks), met_sheet(kind, looks, sight), table)


def plain_table(kind, looks, sight):
    """The table with the good figure nearest to 0 at each met cell."""
    return plain_rows(half_of(kind, looks), met_sheet(kind, looks, sight))
