"""Quotients, figure by figure, the figures looked up in a table."""

from slackfigures.errors import NoRoom, Spoilt
from slackfigures.kinds import bits_of
from slackfigures.points import any_point, cells_of, serves, spoiler
from slackfigures.rows import worth
from slackfigures.tables import entry, first_fault


def has_room(kind, x, divisor, many):
    """Whether so many figures are enough for x by the divisor."""
    base, most = kind
    return (base - 1) * abs(x) <= (most * divisor) << (bits_of(base) * many)


def room(kind, x, divisor):
    """The least number of figures that is enough for x by the divisor."""
    many = 0
    while not has_room(kind, x, divisor, many):
        many += 1
    return many


def first_point(kind, looks, x, divisor, many):
    """The width, the scaled divisor and the first rest; refused where there is no room."""
    if not has_room(kind, x, divisor, many):
        raise NoRoom("the number needs more figures")
    scaled = divisor << (bits_of(kind[0]) * many)
    more = max(0, max(looks) - scaled.bit_length())
    return scaled.bit_length() + more, scaled << more, x << more


def serving_figure(kind, looks, table, cell, point):
    """The entry at the cell, where it is a figure that serves the point, else None."""
    figure = entry(kind, looks, table, cell)
    if figure is None or not serves(kind, figure, point):
        return None
    return figure


def divide(kind, looks, table, x, divisor, many):
    """The row of many figures, and the rest that it leaves of x."""
    wide, scaled, rest = first_point(kind, looks, x, divisor, many)
    row = []
    for step in range(many):
        point = (wide, scaled, kind[0] * rest)
        cell = cells_of(kind, looks, 1, point)[0]
        figure = serving_figure(kind, looks, table, cell, point)
        if figure is None:
            raise Spoilt(step)
        row.append(figure)
        rest = point[2] - figure * scaled
    return row, x - worth(kind, row) * divisor


def quotient(kind, looks, table, x, divisor):
    """The plain quotient, and the rest from 0 to below the divisor."""
    row, rest = divide(kind, looks, table, x, divisor, room(kind, x, divisor))
    # The slack leaves a rest of either sign, up to the divisor itself.
    over = rest // divisor
    return worth(kind, row) + over, rest - over * divisor


def spoilt_by(kind, looks, table):
    """Two numbers (x, divisor) whose quotient the table spoils at its first fault, or None."""
    cell = first_fault(kind, looks, 1, table)
    if cell is None:
        return None
    figure = entry(kind, looks, table, cell)
    if figure is None:
        point = any_point(kind, looks, 1, cell)
    else:
        point = spoiler(kind, looks, 1, cell, figure)
    # Divided with one figure both are looked at times the base, which shows the same cell.
    return point[2], point[1]
