"""What several tests ask for: reckoned from the document alone, by nothing of the package."""

BASES = (2, 4, 8, 16)
BITS = {2: 1, 4: 2, 8: 3, 16: 4}
KINDS = [(base, most) for base in BASES for most in range(base // 2, base)]

# What is neither a whole number nor None.
NO_NUMBERS = [
    True, False, "", "0", "1", "-1", "none", b"", b"1", 0.0, 1.0, 0.5, -1.0, 1j, ..., (), (0,), (1, 0), (None,),
    [], [0], [1], [None], {}, {0: 1}, {0, 1}, frozenset((1,)), range(2), int, object(), float("nan"), float("inf"),
]


def is_whole(thing):
    return isinstance(thing, int) and not isinstance(thing, bool)


def greatest(kind, count):
    """The greatest worth of a row of so many figures."""
    base, most = kind
    return most * (base ** count - 1) // (base - 1)


def figures_of(kind):
    return range(-kind[1], kind[1] + 1)


def half_reckoned(kind, looks):
    return kind[0] * 2 ** looks[1] + 2


def tops_reckoned(looks):
    return range(2 ** (looks[0] - 1), 2 ** looks[0])


def cells_reckoned(kind, looks):
    """All cells, by top, then by look."""
    half = half_reckoned(kind, looks)
    return [(top, look) for top in tops_reckoned(looks) for look in range(-half, half)]


def is_point_reckoned(kind, looks, point):
    base, most = kind
    wide, divisor, rest = point
    return (
        wide >= max(looks)
        and 2 ** (wide - 1) <= divisor <= 2 ** wide - 1
        and -base * most * divisor <= (base - 1) * rest <= base * most * divisor
    )


def shown_reckoned(looks, sight, point):
    """The cells that the point shows."""
    wide, divisor, rest = point
    top = divisor // 2 ** (wide - looks[0])
    look = rest // 2 ** (wide - looks[1])
    return [(top, look)] if sight == 1 else [(top, look), (top, look - 1)]


def serves_reckoned(kind, figure, point):
    base, most = kind
    divisor, rest = point[1:]
    return -most * divisor <= (base - 1) * (rest - figure * divisor) <= most * divisor


def points_of_width(kind, wide):
    """All points of that width, of looks no greater than it."""
    base, most = kind
    for divisor in range(2 ** (wide - 1), 2 ** wide):
        reach = base * most * divisor // (base - 1)
        for rest in range(-reach, reach + 1):
            yield wide, divisor, rest


def end_points(kind, looks, sight, cell, wide=64):
    """Points that show the cell, among them those whose rests are greatest and least against the divisor.

    Of a width that is great enough for all that can be told apart at looks up to (10, 10).
    """
    base, most = kind
    (tops, parts), (top, look) = looks, cell
    least, last = top * 2 ** (wide - tops), (top + 1) * 2 ** (wide - tops) - 1
    lower, upper = look * 2 ** (wide - parts), (look + sight) * 2 ** (wide - parts) - 1
    divisors = [least, last]
    for rest in (lower, upper):
        crossing = abs(rest) * (base - 1) // (base * most)
        divisors.extend(range(crossing - 2, crossing + 3))
    points = []
    for divisor in divisors:
        if least <= divisor <= last:
            reach = base * most * divisor // (base - 1)
            low, high = max(lower, -reach), min(upper, reach)
            if low <= high:
                points.extend([(wide, divisor, low), (wide, divisor, high)])
    return points


def good_reckoned(kind, looks, sight, cell):
    """The figures that serve all these points."""
    points = end_points(kind, looks, sight, cell)
    return [figure for figure in figures_of(kind) if all(serves_reckoned(kind, figure, point) for point in points)]


def is_met_reckoned(kind, looks, sight, cell):
    return bool(end_points(kind, looks, sight, cell))


def cell_places(kind, looks, cell):
    """Where the cell's entry stands in a table."""
    return cell[0] - 2 ** (looks[0] - 1), cell[1] + half_reckoned(kind, looks)


def filled_table(kind, looks, told):
    """The table that has at each cell what told(cell) tells."""
    half = half_reckoned(kind, looks)
    return [[told((top, look)) for look in range(-half, half)] for top in tops_reckoned(looks)]


def with_entry(kind, looks, table, cell, figure):
    """A table of its own, like this one but for one cell."""
    changed = [list(row) for row in table]
    row, place = cell_places(kind, looks, cell)
    changed[row][place] = figure
    return changed


def scaled_reckoned(kind, looks, x, divisor, many):
    """The width, the scaled divisor and the first rest."""
    scaled = divisor * kind[0] ** many
    while scaled < 2 ** (max(looks) - 1):
        scaled, x = 2 * scaled, 2 * x
    return len(bin(scaled)) - 2, scaled, x


def has_room_reckoned(kind, x, divisor, many):
    base, most = kind
    return (base - 1) * abs(x) <= most * divisor * base ** many


def room_reckoned(kind, x, divisor):
    many = 0
    while not has_room_reckoned(kind, x, divisor, many):
        many += 1
    return many


def signed(number, width):
    """The number from -(2 ** (width - 1)) on that differs by a multiple of 2 ** width."""
    return (number + 2 ** (width - 1)) % 2 ** width - 2 ** (width - 1)


def next_pair_reckoned(width, one, other, third):
    """Three in two, by what is left of the sum without the first number."""
    single = one ^ other ^ third
    return single, (one + other + third - single) % 2 ** width


def copy_reckoned(table):
    return [list(row) for row in table]
