"""Tables mended: wrong entries give way to the nearest good figures."""

from slackfigures.cells import good_bounds, half_of, met_sheet
from slackfigures.spans import all_wrong, refuse_bare
from slackfigures.tables import copy_of_table, entry, put_entry


def mended_entry(kind, looks, sight, cell, figure):
    """The good figure of the met cell that is nearest to this one, None counted as 0."""
    least, greatest = good_bounds(kind, looks, sight, cell)
    return max(least, min(greatest, 0 if figure is None else figure))


def mended(kind, looks, sight, table):
    """The table with good figures at all met cells, and the list of the cells at which it was changed."""
    sheet = met_sheet(kind, looks, sight)
    refuse_bare(sheet)
    cells = all_wrong(half_of(kind, looks), sheet, table)
    better = copy_of_table(table)
    for cell in cells:
        figure = entry(kind, looks, table, cell)
        put_entry(kind, looks, better, cell, mended_entry(kind, looks, sight, cell, figure))
    return better, cells
