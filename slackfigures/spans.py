"""Spans: for each figure, the looks of one top at which it is good.

The greater the look, the greater the figures that are good there: so the looks of a
figure stand side by side, and all rows of a table can be reckoned figure by figure
instead of cell by cell. A span is a tuple (figure, start, stop); a figure that is good
nowhere has its stop below its start. The spans of a top are a list with all figures,
rising, whose starts and stops don't fall; the first one starts, and the last one stops,
at the first and the last look at which a figure is asked for. A sheet is a list with a
tuple (top, spans) for each top, rising.
"""

from slackfigures.errors import NoTable


def upper_ends(kind, least, greatest, more, parts):
    """For each figure but most, rising, the last upper end of looks for which it is not too small.

    The divisors reach from least to greatest, both in parts of one by 2 to the power more.
    """
    base, most = kind
    unit = (base - 1) << more
    first = most - most * (base - 1)
    # The rest is greatest against the divisor where the divisor is least,
    # but where rests are below 0 the divisor has to be greatest.
    return [
        ((slope * (least if slope > 0 else greatest)) << parts) // unit
        for slope in range(first, first + 2 * most * (base - 1), base - 1)
    ]


def spans_between(kind, starts, stops):
    """The spans of all figures, rising, with these starts and stops."""
    most = kind[1]
    return list(zip(range(-most, most + 1), starts, stops))


def figures_at(spans, look):
    """All figures that are good at the look, rising."""
    return [figure for figure, start, stop in spans if start <= look <= stop]


def bare_look(spans):
    """The first look at which a figure is asked for and none is good, or None."""
    reached = spans[0][1] - 1
    for figure, start, stop in spans:
        # No later span starts ahead of this one.
        if start > reached + 1:
            return reached + 1
        reached = max(reached, stop)
    return None


def first_bare(sheet):
    """The first cell, by top, then by look, at which a figure is asked for and none is good, or None."""
    for top, spans in sheet:
        look = bare_look(spans)
        if look is not None:
            return top, look
    return None


def refuse_bare(sheet):
    """Refuses where at some cell a figure is asked for and none is good."""
    cell = first_bare(sheet)
    if cell is not None:
        raise NoTable(cell[0], cell[1])


def plain_row(half, spans):
    """The row with the good figure nearest to 0 where one is asked for, and None elsewhere."""
    row = [None] * (spans[0][1] + half)
    for at, (figure, start, stop) in enumerate(spans):
        # Below 0 the greater figure is the nearer one, so a figure ends where the next one starts.
        end = spans[at + 1][1] - 1 if figure < 0 else stop
        row.extend([figure] * (end + 1 + half - len(row)))
    row.extend([None] * (2 * half - len(row)))
    return row


def plain_rows(half, sheet):
    """The table with the good figures nearest to 0; refused where at some cell none is good."""
    refuse_bare(sheet)
    return [plain_row(half, spans) for top, spans in sheet]


def is_right(half, spans, row):
    """Whether a good figure stands at each look at which one is asked for."""
    right = 0
    for figure, start, stop in spans:
        if start <= stop:
            right += row[start + half:stop + half + 1].count(figure)
    return right == spans[-1][2] - spans[0][1] + 1


def wrong_looks(half, spans, row):
    """All looks at which a figure is asked for and no good one stands, rising."""
    looks = []
    most = spans[-1][0]
    first, last = spans[0][1], spans[-1][2]
    for look, figure in enumerate(row[first + half:last + half + 1], start=first):
        if figure is None or not spans[figure + most][1] <= look <= spans[figure + most][2]:
            looks.append(look)
    return looks


def first_wrong(half, sheet, table):
    """The first cell, by top, then by look, at which no good figure stands, or None."""
    for (top, spans), row in zip(sheet, table):
        # Counting is quick, and most rows have nothing wrong.
        if not is_right(half, spans, row):
            return top, wrong_looks(half, spans, row)[0]
    return None


def all_wrong(half, sheet, table):
    """All cells, by top, then by look, at which no good figure stands."""
    cells = []
    for (top, spans), row in zip(sheet, table):
        cells.extend([(top, look) for look in wrong_looks(half, spans, row)])
    return cells
