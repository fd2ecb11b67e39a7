"""Quotients with the rest in two rows that are never added up."""

from slackfigures.errors import Spoilt
from slackfigures.rows import worth
from slackfigures.works import TwoRows, serving_figure


def trail(kind, looks, table, x, divisor, many):
    """For each step the pair ahead of it, the look and the figure."""
    work = TwoRows(kind, looks, x, divisor, many)
    steps = []
    for step in range(many):
        first, second = work.pair
        cell, point = work.seen()
        figure = serving_figure(kind, looks, table, cell, point)
        if figure is None:
            raise Spoilt(step)
        steps.append((first, second, cell[1], figure))
        work.take(figure)
    return steps


def divide_rows(kind, looks, table, x, divisor, many):
    """The row of many figures, and the rest that it leaves of x."""
    steps = trail(kind, looks, table, x, divisor, many)
    row = [figure for first, second, look, figure in steps]
    return row, x - worth(kind, row) * divisor
