"""Figures turned into digits as they come: two held rows, one worth 1 less."""

from slackfigures.errors import NoFigure
from slackfigures.kinds import bits_of, is_figure
from slackfigures.rows import worth


def digit_kind(base):
    """The kind whose figures have every size that a digit of the base has."""
    return base, base - 1


def held_worth(base, held):
    """The worth of the held row (debt, digits)."""
    debt, digits = held
    return worth(digit_kind(base), digits) - (debt << (bits_of(base) * len(digits)))


def with_digit(held, digit):
    """A held row of its own: the old one with the digit behind."""
    debt, digits = held
    return debt, digits + [digit]


def copy_of(held):
    """A held row like this one that shares no list with it."""
    debt, digits = held
    return debt, list(digits)


class Turner:
    """Holds the row of the figures told so far, and the row worth 1 less, by digits alone."""

    def __init__(self, base):
        self.base = base
        self.exact = (0, [])
        self.less = (1, [])

    def put(self, figure):
        """Takes the next figure."""
        if not is_figure(digit_kind(self.base), figure):
            raise NoFigure("no whole number of a size below the base")
        exact = self.exact
        less = self.less
        # A digit that would be below 0 borrows a whole base from the row worth 1 less.
        self.exact = with_digit(exact, figure) if figure >= 0 else with_digit(less, self.base + figure)
        self.less = with_digit(exact, figure - 1) if figure > 0 else with_digit(less, self.base + figure - 1)

    def held(self):
        """The held row of the worth of the figures so far."""
        return copy_of(self.exact)

    def below(self):
        """The held row of that worth less 1."""
        return copy_of(self.less)
