"""Two rows added as they come, the leading figures first.

A Summer tells the figure that stands two places ahead of the newest pair. What the
figures that were told are short of, counted at the newest pair's place, is carried on:
it always stays so small that two figures can make it up, and that whatever comes next
leaves a figure to tell.
"""

from slackfigures.errors import NoFigure, NoMore
from slackfigures.kinds import is_figure


def nearest_figure(kind, number, weight):
    """The figure that, so many times the weight, is nearest to the number."""
    most = kind[1]
    return max(-most, min(most, (number + weight // 2) // weight))


class Summer:
    """Tells one row of the worth of two."""

    def __init__(self, kind):
        self.kind = kind
        self.short = 0
        self.figures = []
        self.pairs = 0
        self.ended = False

    def tell(self, weight):
        """The figure that is told next; it counts the weight at the newest pair's place."""
        figure = nearest_figure(self.kind, self.short, weight)
        self.short -= figure * weight
        self.figures.append(figure)
        return figure

    def put(self, one, other):
        """Takes the next pair, and tells what is known now."""
        self.refuse_behind_end()
        if not is_figure(self.kind, one) or not is_figure(self.kind, other):
            raise NoFigure("no figure of the kind")
        base = self.kind[0]
        self.short = self.short * base + one + other
        self.pairs += 1
        # The first pair leaves two places to come: its own, and the one ahead of it.
        return [] if self.pairs == 1 else [self.tell(base * base)]

    def end(self):
        """Takes the end of the rows, and tells the last figures."""
        self.refuse_behind_end()
        self.ended = True
        if self.pairs == 0:
            return [self.tell(1)]
        return [self.tell(self.kind[0]), self.tell(1)]

    def refuse_behind_end(self):
        """Refuses what comes behind the end."""
        if self.ended:
            raise NoMore("the rows have ended")

    def told(self):
        """All figures told so far."""
        return list(self.figures)
