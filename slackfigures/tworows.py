"""Quotients with the rest in two rows that are never added up."""

from slackfigures.errors import Spoilt
from slackfigures.kinds import bits_of
from slackfigures.pairs import look_of, pair_worth, three_in_two
from slackfigures.quotients import first_point, serving_figure
from slackfigures.rows import worth


def shifted(base, width, pair):
    """Both numbers taken times the base, within the width."""
    whole = 1 << width
    return (base * pair[0]) % whole, (base * pair[1]) % whole


def trail(kind, looks, table, x, divisor, many):
    """For each step the pair ahead of it, the look and the figure."""
    base = kind[0]
    tops, parts = looks
    wide, scaled, rest = first_point(kind, looks, x, divisor, many)
    width = wide + bits_of(base) + 2
    top = scaled >> (wide - tops)
    pair = (rest % (1 << width), 0)
    steps = []
    for step in range(many):
        one, other = shifted(base, width, pair)
        look = look_of(width, (one, other), wide - parts)
        point = (wide, scaled, pair_worth(width, (one, other)))
        figure = serving_figure(kind, looks, table, (top, look), point)
        if figure is None:
            raise Spoilt(step)
        steps.append((pair[0], pair[1], look, figure))
        pair = three_in_two(width, one, other, (-figure * scaled) % (1 << width))
    return steps


def divide_rows(kind, looks, table, x, divisor, many):
    """The row of many figures, and the rest that it leaves of x."""
    steps = trail(kind, looks, table, x, divisor, many)
    row = [figure for first, second, look, figure in steps]
    return row, x - worth(kind, row) * divisor
