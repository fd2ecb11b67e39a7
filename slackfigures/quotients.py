"""Quotients, figure by figure, the figures looked up in a table."""

from slackfigures.errors import Spoilt
from slackfigures.points import any_point, spoiler
from slackfigures.rows import worth
from slackfigures.tables import entry, first_fault
from slackfigures.works import OneRow, has_room, serving_figure


def room(kind, x, divisor):
    """The least number of figures that is enough for x by the divisor."""
    many = 0
    while not has_room(kind, x, divisor, many):
        many += 1
    return many


def divide(kind, looks, table, x, divisor, many):
    """The row of many figures, and the rest that it leaves of x."""
    work = OneRow(kind, looks, x, divisor, many)
    row = []
    for step in range(many):
        cell, point = work.seen()
        figure = serving_figure(kind, looks, table, cell, point)
        if figure is None:
            raise Spoilt(step)
        row.append(figure)
        work.take(figure)
    return row, x - worth(kind, row) * divisor


def quotient(kind, looks, table, x, divisor):
    """The plain quotient, and the rest from 0 to below the divisor."""
    row, rest = divide(kind, looks, table, x, divisor, room(kind, x, divisor))
    # The slack leaves a rest of either sign, up to the divisor itself.
    over = rest // divisor
    return worth(kind, row) + over, rest - over * divisor


def spoilt_by(kind, looks, table):
    """Two numbers (x, divisor) whose quotient the table spoils at its first fault, or None."""
    cell = first_fault(kind, looks, 1, table)
    if cell is None:
        return None
    figure = entry(kind, looks, table, cell)
    if figure is None:
        point = any_point(kind, looks, 1, cell)
    else:
        point = spoiler(kind, looks, 1, cell, figure)
    # Divided with one figure both are looked at times the base, which shows the same cell.
    return point[2], point[1]
