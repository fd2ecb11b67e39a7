"""Looks and their cells: which ones are met, and which figures are good there.

Only the proportion of rest and divisor matters to a figure. With widths of any
size points lie as close as one likes, so the ends of a cell decide; a divisor or
a rest comes to the lower end of its top or look, and as close as one likes to the
upper one. By sight 2 a cell is shown by the rests of its look and of the next one,
so that the sight is also how many looks wide a cell is.
"""

from slackfigures.spans import spans_between, upper_ends

MOST_CELLS = 20000


def are_looks(kind, looks):
    """Whether the looks, any two whole numbers, are let for the kind."""
    tops, parts = looks
    if not 1 <= tops <= 10 or not 0 <= parts <= 10:
        return False
    return first_top(looks) * 2 * half_of(kind, looks) <= MOST_CELLS


def half_of(kind, looks):
    """The look of a cell is from -half to half - 1."""
    return (kind[0] << looks[1]) + 2


def first_top(looks):
    """The least top, and how many tops there are."""
    return 1 << (looks[0] - 1)


def tops_of(looks):
    """All tops, rising."""
    first = first_top(looks)
    return list(range(first, 2 * first))


def is_top(looks, number):
    """Whether the whole number, any one, is a top."""
    return first_top(looks) <= number < 2 * first_top(looks)


def is_cell(kind, looks, cell):
    """Whether the two whole numbers, any ones, are a cell."""
    half = half_of(kind, looks)
    return is_top(looks, cell[0]) and -half <= cell[1] < half


def met_bounds(kind, looks, sight, top):
    """The first and the last look of the met cells with this top; all between are met."""
    base, most = kind
    tops, parts = looks
    # A rest of a point is at most base * most / (base - 1) times the divisor,
    # which stays below the upper end of its top.
    reach = (base * most * (top + 1)) << parts
    last = (reach - 1) // ((base - 1) << tops)
    return -last - sight, last


def is_met(kind, looks, sight, cell):
    """Whether a point of any width shows the cell."""
    top, look = cell
    first, last = met_bounds(kind, looks, sight, top)
    return first <= look <= last


def least_great_enough(kind, looks, top, end):
    """The least figure that is not too small for any rest up to the look's upper end."""
    base, most = kind
    tops, parts = looks
    # The rest is greatest against the divisor where the divisor is least,
    # but where rests are below 0 the divisor has to be greatest.
    divisor = top if end > 0 else top + 1
    short = ((end * (base - 1)) << tops) - ((most * divisor) << parts)
    figure = -(-short // ((divisor * (base - 1)) << parts))
    # No rest of a point is too great for the greatest figure.
    return max(-most, min(most, figure))


def good_bounds(kind, looks, sight, cell):
    """The least and the greatest good figure of a met cell; where none is good the least is greater."""
    top, look = cell
    # What is too great for a rest is too small for minus that rest, each with a minus.
    return least_great_enough(kind, looks, top, look + sight), -least_great_enough(kind, looks, top, -look)


def good_figures(kind, looks, sight, cell):
    """All figures that serve each point, of any width, that shows the cell, rising."""
    if not is_met(kind, looks, sight, cell):
        return list(range(-kind[1], kind[1] + 1))
    least, greatest = good_bounds(kind, looks, sight, cell)
    return list(range(least, greatest + 1))


def met_spans(kind, looks, sight, top):
    """For each figure, rising, the looks of the top's met cells at which it is good."""
    first, last = met_bounds(kind, looks, sight, top)
    ends = upper_ends(kind, top, top + 1, looks[0], looks[1])
    # What is too great for a rest is too small for minus that rest, each with a minus.
    starts = [-end for end in reversed(ends)]
    stops = [end - sight for end in ends]
    return spans_between(kind, [first] + starts, stops + [last])


def met_sheet(kind, looks, sight):
    """The spans of all tops."""
    return [(top, met_spans(kind, looks, sight, top)) for top in tops_of(looks)]
