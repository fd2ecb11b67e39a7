"""Tables: a figure, or None, for each cell."""

from slackfigures.cells import are_looks, first_top, good_bounds, half_of, is_met, met_bounds, tops_of
from slackfigures.errors import NoTable
from slackfigures.kinds import is_figure


def is_entry(kind, thing):
    """Whether the thing, any one, may stand at a cell."""
    return thing is None or is_figure(kind, thing)


def is_table_row(kind, looks, thing):
    """Whether the thing, any one, may be the row of a top."""
    if not isinstance(thing, list) or len(thing) != 2 * half_of(kind, looks):
        return False
    return all([is_entry(kind, within) for within in thing])


def is_table(kind, looks, thing):
    """Whether the thing, any one, is a table of the kind and looks."""
    if not are_looks(kind, looks):
        return False
    if not isinstance(thing, list) or len(thing) != first_top(looks):
        return False
    return all([is_table_row(kind, looks, row) for row in thing])


def entry(kind, looks, table, cell):
    """What stands in the table at the cell: a figure or None."""
    top, look = cell
    return table[top - first_top(looks)][look + half_of(kind, looks)]


def met_cells(kind, looks, sight):
    """All cells that are met, by top, then by look."""
    cells = []
    for top in tops_of(looks):
        first, last = met_bounds(kind, looks, sight, top)
        cells.extend([(top, look) for look in range(first, last + 1)])
    return cells


def is_good(kind, looks, sight, cell, figure):
    """Whether it is a figure, not None, and good at the cell, which is met."""
    if figure is None:
        return False
    least, greatest = good_bounds(kind, looks, sight, cell)
    return least <= figure <= greatest


def first_fault(kind, looks, sight, table):
    """The first met cell at which no good figure stands, or None."""
    for cell in met_cells(kind, looks, sight):
        if not is_good(kind, looks, sight, cell, entry(kind, looks, table, cell)):
            return cell
    return None


def plain_entry(kind, looks, sight, cell):
    """The good figure nearest to 0, or None where the cell is not met."""
    if not is_met(kind, looks, sight, cell):
        return None
    least, greatest = good_bounds(kind, looks, sight, cell)
    if least > greatest:
        raise NoTable(cell[0], cell[1])
    return max(least, min(greatest, 0))


def plain_table(kind, looks, sight):
    """The table with the good figure nearest to 0 at each met cell."""
    half = half_of(kind, looks)
    return [
        [plain_entry(kind, looks, sight, (top, look)) for look in range(-half, half)]
        for top in tops_of(looks)
    ]
