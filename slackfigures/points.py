"""Points: a divisor and a rest of some width, the cells they show, the figures that serve them."""

from slackfigures.cells import good_bounds, is_met


def is_point(kind, looks, point):
    """Whether the three whole numbers (wide, divisor, rest), any ones, are a point."""
    base, most = kind
    tops, parts = looks
    wide, divisor, rest = point
    if wide < tops or wide < parts:
        return False
    # A width may be a number of sixty figures, of which no power can be had.
    if divisor < 1 or divisor.bit_length() != wide:
        return False
    return (base - 1) * abs(rest) <= base * most * divisor


def cells_of(kind, looks, sight, point):
    """The cells that the point shows by the sight."""
    tops, parts = looks
    wide, divisor, rest = point
    top = divisor >> (wide - tops)
    look = rest >> (wide - parts)
    return [(top, look - less) for less in range(sight)]


def serves(kind, figure, point):
    """Whether the figure leaves a rest that the figures behind it can mend."""
    base, most = kind
    divisor, rest = point[1:]
    return (base - 1) * abs(rest - figure * divisor) <= most * divisor


def spoiler(kind, looks, sight, cell, figure):
    """A point that shows the cell and that the figure doesn't serve, or None of a good figure."""
    if not is_met(kind, looks, sight, cell):
        return None
    least, greatest = good_bounds(kind, looks, sight, cell)
    if figure < least:
        return point_above(kind, looks, sight, cell, figure)
    if figure > greatest:
        return point_below(kind, looks, sight, cell, figure)
    return None


def two_points(kind, looks, sight, cell):
    """Two points of one width that show the cell and no figure serves both, or None where a figure is good."""
    if not is_met(kind, looks, sight, cell):
        return None
    least, greatest = good_bounds(kind, looks, sight, cell)
    if least <= greatest:
        return None
    # All figures below the least are too small for the one, and all others,
    # which are above the greatest, are too great for the other.
    one = point_above(kind, looks, sight, cell, least - 1)
    other = point_below(kind, looks, sight, cell, greatest + 1)
    wide = max(one[0], other[0])
    return widened(one, wide), widened(other, wide)


def widened(point, wide):
    """The point with bits 0 behind, so that it is of that width and shows the same."""
    more = wide - point[0]
    return wide, point[1] << more, point[2] << more


def any_point(kind, looks, sight, cell):
    """A point that shows the cell, which is met."""
    base, most = kind
    return steep_point(kind, looks, sight, cell, -base * most)


def point_above(kind, looks, sight, cell, figure):
    """A point that shows the cell and has a rest too great for the figure."""
    base, most = kind
    return steep_point(kind, looks, sight, cell, figure * (base - 1) + most)


def point_below(kind, looks, sight, cell, figure):
    """A point that shows the cell and has a rest too small for the figure."""
    top, look = cell
    # Minus the rest shows the cell on the other side of 0, and is too great for minus the figure.
    wide, divisor, rest = point_above(kind, looks, sight, (top, -look - sight), -figure)
    return wide, divisor, -rest


def steep_point(kind, looks, sight, cell, slope):
    """A point in the cell, at no end of its look, with base - 1 times the rest above slope times the divisor.

    There has to be one. The middle one of the divisors that may do leaves room
    for rests that grows with the width, so that some width has one there.
    """
    wide = max(looks)
    while True:
        divisor = middle_divisor(kind, looks, sight, cell, slope, wide)
        low, high = steep_rests(kind, looks, sight, cell, slope, wide, divisor)
        if low <= high and divisor >> (wide - looks[0]) == cell[0]:
            return wide, divisor, low
        wide += 1


def look_ends(looks, sight, look, wide):
    """The lower and the upper end of the rests, of that width, that the look has."""
    more = wide - looks[1]
    return look << more, (look + sight) << more


def steep_rests(kind, looks, sight, cell, slope, wide, divisor):
    """The least and the greatest rest that do with this divisor; where none does the least is greater."""
    base, most = kind
    lower, upper = look_ends(looks, sight, cell[1], wide)
    low = max(lower, slope * divisor // (base - 1)) + 1
    high = min(upper - 1, base * most * divisor // (base - 1))
    return low, high


def middle_divisor(kind, looks, sight, cell, slope, wide):
    """The middle one of the divisors with which some rests may do."""
    base, most = kind
    lower, upper = look_ends(looks, sight, cell[1], wide)
    more = wide - looks[0]
    # At least so great that rests of the look are within what a point may have.
    low = max(cell[0] << more, lower * (base - 1) // (base * most))
    high = (cell[0] + 1) << more
    # The rests have to be above the slope, and below the upper end.
    if slope > 0:
        high = min(high, upper * (base - 1) // slope)
    if slope < 0:
        low = max(low, upper * (base - 1) // slope)
    return (low + high) // 2
