"""The refusals: each stands straight under SlackError."""


class SlackError(ValueError):
    """Any refusal of this package."""


class NoFigure(SlackError):
    """A thing that is no figure was told as one."""


class NoTable(SlackError):
    """There is no plain table: no figure is good at the cell (top, look)."""

    def __init__(self, top, look):
        SlackError.__init__(self, f"no figure is good at the cell ({top}, {look})")
        self.top = top
        self.look = look


class NoLooks(SlackError):
    """No looks that are let have a plain table."""


class NoRoom(SlackError):
    """The number is too great for so many figures."""


class Spoilt(SlackError):
    """At this step, counted from 0, the table's entry doesn't serve."""

    def __init__(self, step):
        SlackError.__init__(self, f"the table's entry does not serve at step {step}")
        self.step = step


class NoText(SlackError):
    """The text writes nothing that could be read."""


class NoRow(SlackError):
    """The desk was told no row that it knows."""


class NoMore(SlackError):
    """The rows have ended already."""


class NoWork(SlackError):
    """No work has this number."""


class NoCell(SlackError):
    """There is no such cell, or no such entry for one."""


class NoDeed(SlackError):
    """The deed of this number, counted from 0, can't be done."""

    def __init__(self, number):
        SlackError.__init__(self, f"the deed {number} can not be done")
        self.number = number
