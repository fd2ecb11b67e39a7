"""Divisions under way: where each stands, which cell it looks at, and how a figure brings it on."""

from slackfigures.errors import NoRoom
from slackfigures.kinds import bits_of
from slackfigures.pairs import look_of, pair_worth, three_in_two
from slackfigures.points import serves
from slackfigures.tables import entry


def has_room(kind, x, divisor, many):
    """Whether so many figures are enough for x by the divisor."""
    base, most = kind
    return (base - 1) * abs(x) <= (most * divisor) << (bits_of(base) * many)


def first_point(kind, looks, x, divisor, many):
    """The width, the scaled divisor and the first rest; refused where there is no room."""
    if not has_room(kind, x, divisor, many):
        raise NoRoom("the number needs more figures")
    scaled = divisor << (bits_of(kind[0]) * many)
    more = max(0, max(looks) - scaled.bit_length())
    return scaled.bit_length() + more, scaled << more, x << more


def serving_figure(kind, looks, table, cell, point):
    """The entry at the cell, where it is a figure that serves the point, else None."""
    figure = entry(kind, looks, table, cell)
    if figure is None or not serves(kind, figure, point):
        return None
    return figure


class OneRow:
    """A division with the rest in one row."""

    def __init__(self, kind, looks, x, divisor, many):
        wide, scaled, left_over = first_point(kind, looks, x, divisor, many)
        self.base = kind[0]
        self.wide = wide
        self.scaled = scaled
        self.top = scaled >> (wide - looks[0])
        self.low = wide - looks[1]
        self.left_over = left_over

    def seen(self):
        """The cell that the next step looks at, and the point at which it does."""
        taken = self.base * self.left_over
        return (self.top, taken >> self.low), (self.wide, self.scaled, taken)

    def take(self, figure):
        """Goes on by the figure."""
        self.left_over = self.base * self.left_over - figure * self.scaled


class TwoRows:
    """A division with the rest in two rows that are never added up."""

    def __init__(self, kind, looks, x, divisor, many):
        wide, scaled, left_over = first_point(kind, looks, x, divisor, many)
        self.base = kind[0]
        self.wide = wide
        self.scaled = scaled
        self.top = scaled >> (wide - looks[0])
        self.low = wide - looks[1]
        self.width = wide + bits_of(kind[0]) + 2
        self.whole = 1 << self.width
        self.pair = self.stand(left_over)

    def stand(self, number):
        """The pair that holds the number in its first row alone."""
        return number % self.whole, 0

    def taken(self):
        """The pair taken times the base, within the width."""
        one, other = self.pair
        return (self.base * one) % self.whole, (self.base * other) % self.whole

    def seen(self):
        """The cell that the next step looks at, and the point at which it does."""
        taken = self.taken()
        look = look_of(self.width, taken, self.low)
        return (self.top, look), (self.wide, self.scaled, pair_worth(self.width, taken))

    def take(self, figure):
        """Goes on by the figure."""
        one, other = self.taken()
        less = (-figure * self.scaled) % self.whole
        self.pair = three_in_two(self.width, one, other, less)
