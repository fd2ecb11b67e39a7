"""Roots, figure by figure, the figures looked up in a table of their own.

As with quotients the ends of a cell decide. What lies there is bounded by straight
lines, and so is what a figure is good for; so only the corners at the look's ends
have to be looked at, with the least or the greatest x, as the look's sign tells.
"""

from slackfigures.cells import half_of, tops_of
from slackfigures.errors import Spoilt
from slackfigures.kinds import bits_of
from slackfigures.spans import figures_at, first_wrong, plain_rows, spans_between, upper_ends
from slackfigures.tables import entry


def ends_of_top(looks, fresh, top):
    """The least and the greatest x, in parts of one by 2 to the power tops + fresh."""
    aside = 1 << looks[0]
    return (top << fresh) - aside, ((top + 1) << fresh) + aside


def curved(kind, looks, fresh, slope, x):
    """The fraction u * x + u * u * z, with u = slope / (base - 1), in looks.

    Told are its upper and its lower number.
    """
    base = kind[0]
    tops, parts = looks
    upper = slope * (2 * base * (base - 1) * x + (slope << tops))
    return upper << parts, (base * (base - 1) * (base - 1)) << (tops + fresh + 1)


def start_of(kind, looks, fresh, ends, figure):
    """The first look that is not too small for the figure, which is not -most."""
    base, most = kind
    slope = figure * (base - 1) - most
    upper, lower = curved(kind, looks, fresh, slope, ends[1] if slope > 0 else ends[0])
    return -(-upper // lower)


def asked_bounds(kind, looks, fresh, ends):
    """The first and the last look of the cells where anything lies; it lies at all between."""
    base, most = kind
    tops, parts = looks
    greatest = ends[1]
    upper, lower = curved(kind, looks, fresh, base * most, greatest)
    lowest = ((base * most * greatest) << parts) // ((base - 1) << (tops + fresh))
    # Something may lie beyond all cells, where no root ever looks.
    half = half_of(kind, looks)
    return max(-half, -lowest - 1), min(half - 1, upper // lower)


def root_spans(kind, looks, fresh, top):
    """For each figure, rising, the looks of the top at which it is good for roots."""
    most = kind[1]
    tops, parts = looks
    ends = ends_of_top(looks, fresh, top)
    first, last = asked_bounds(kind, looks, fresh, ends)
    starts = [start_of(kind, looks, fresh, ends, figure) for figure in range(1 - most, most + 1)]
    stops = [end - 1 for end in upper_ends(kind, ends[0], ends[1], tops + fresh, parts)]
    return spans_between(kind, [first] + starts, stops + [last])


def root_sheet(kind, looks, fresh):
    """The spans of all tops."""
    return [(top, root_spans(kind, looks, fresh, top)) for top in tops_of(looks)]


def root_good(kind, looks, fresh, cell):
    """All figures that are good for roots at the cell, rising."""
    top, look = cell
    spans = root_spans(kind, looks, fresh, top)
    if not spans[0][1] <= look <= spans[-1][2]:
        return list(range(-kind[1], kind[1] + 1))
    return figures_at(spans, look)


def first_root_fault(kind, looks, fresh, table):
    """The first cell where anything lies and no figure stands that is good for roots, or None."""
    return first_wrong(half_of(kind, looks), root_sheet(kind, looks, fresh), table)


def root_table(kind, looks, fresh):
    """The table with the figure nearest to 0 that is good for roots, where anything lies."""
    return plain_rows(half_of(kind, looks), root_sheet(kind, looks, fresh))


def whole_root(number):
    """The greatest whole number whose square is no greater."""
    if number == 0:
        return 0
    near = 1 << ((number.bit_length() + 1) // 2)
    nearer = (near + number // near) // 2
    # From above each one is nearer, until the root itself is had.
    while nearer < near:
        near = nearer
        nearer = (near + number // near) // 2
    return near


def is_near(kind, number, total, place):
    """Whether the sum is as near to the number's square root as figures behind the place can mend."""
    base, most = kind
    slack = most << place
    low = (base - 1) * total - slack
    high = (base - 1) * total + slack
    square = (base - 1) * (base - 1) * number
    return high >= 0 and square <= high * high and (low <= 0 or low * low <= square)


def root_walk(kind, looks, fresh, table, number):
    """The figures that are looked up, and the sum that they come to."""
    tops, parts = looks
    bits = bits_of(kind[0])
    plain = whole_root(number)
    wide = plain.bit_length()
    if wide < tops or wide < fresh or parts > wide + 1:
        return [], plain
    left = (wide - fresh) // bits
    unit = 1 << (bits * left)
    total = (plain + unit // 2) // unit * unit
    top = min(total >> (wide - tops), (1 << tops) - 1)
    figures = []
    for step in range(left):
        place = bits * (left - 1 - step)
        look = (number - total * total) >> (place + wide + 1 - parts)
        figure = entry(kind, looks, table, (top, look))
        if figure is None or not is_near(kind, number, total + (figure << place), place):
            raise Spoilt(step)
        figures.append(figure)
        total += figure << place
    return figures, total


def root(kind, looks, fresh, table, number):
    """The root of the number, and what the number is more than its square."""
    total = root_walk(kind, looks, fresh, table, number)[1]
    # The slack leaves a sum that is at most 1 aside of the square root.
    if total * total > number:
        total -= 1
    elif (total + 1) * (total + 1) <= number:
        total += 1
    return total, number - total * total


def root_steps(kind, looks, fresh, table, number):
    """The figures that are looked up, none where the root is taken plainly."""
    return root_walk(kind, looks, fresh, table, number)[0]
