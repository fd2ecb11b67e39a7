"""Rows of figures, the leading one first, and what they are worth."""


def worth(kind, row):
    """The worth of the row, 0 without figures."""
    base = kind[0]
    total = 0
    for figure in row:
        total = total * base + figure
    return total


def how_many(kind, count, number):
    """How many rows of count figures are worth the number."""
    # Figures are taken off at the end. What is then left is one of two
    # neighbours at most, so that ways stays small however great the count.
    ways = {number: 1}
    for taken in range(count):
        ways = one_figure_less(kind, ways)
    return ways.get(0, 0)


def one_figure_less(kind, ways):
    """The ways, by the number left, once each number's last figure is off."""
    fewer = {}
    for number in ways:
        for left in without_last(kind, number):
            fewer[left] = fewer.get(left, 0) + ways[number]
    return fewer


def without_last(kind, number):
    """What may be left of the number once its last figure is off."""
    base, most = kind
    ends = [figure for figure in range(-most, most + 1) if (number - figure) % base == 0]
    return [(number - figure) // base for figure in ends]
