"""The bench: divisions that go on by turns, by one table that may be changed between their steps."""

from slackfigures.cells import half_of, is_cell, met_sheet
from slackfigures.errors import NoCell, NoDeed, NoRoom, NoWork
from slackfigures.kinds import bits_of
from slackfigures.rows import worth
from slackfigures.spans import all_wrong
from slackfigures.tables import copy_of_table, entry, is_entry, put_entry
from slackfigures.works import OneRow, TwoRows, serving_figure


class Work:
    """A division on the bench, and the figures that it has come to."""

    def __init__(self, division, x, divisor, many):
        self.division = division
        self.x = x
        self.divisor = divisor
        self.many = many
        self.figures = []

    def left(self):
        """How many figures it has yet to come to."""
        return self.many - len(self.figures)

    def take(self, figure):
        """Goes on by the figure."""
        self.division.take(figure)
        self.figures.append(figure)


class Bench:
    """Has a table of its own, and works."""

    def __init__(self, kind, looks, table):
        self.kind = kind
        self.looks = looks
        self.table = copy_of_table(table)
        self.works = []
        self.times = {}
        self.done = []

    def begin(self, x, divisor, many):
        """Begins a division with the rest in one row, and tells its number."""
        division = OneRow(self.kind, self.looks, x, divisor, many)
        self.done.append(("begin", x, divisor, many))
        return self.add_work(Work(division, x, divisor, many))

    def begin_rows(self, x, divisor, many):
        """Begins a division with the rest in two rows, and tells its number."""
        division = TwoRows(self.kind, self.looks, x, divisor, many)
        self.done.append(("rows", x, divisor, many))
        return self.add_work(Work(division, x, divisor, many))

    def add_work(self, work):
        """Puts the work behind all others, and tells its number."""
        self.works.append(work)
        return len(self.works) - 1

    def work_of(self, number):
        """The work of that number."""
        if not 0 <= number < len(self.works):
            raise NoWork("no work has this number")
        return self.works[number]

    def go(self, number):
        """Does a step of the work, and tells what came of it."""
        work = self.work_of(number)
        if work.left() == 0:
            return ("done",)
        cell, point = work.division.seen()
        self.times[cell] = self.times.get(cell, 0) + 1
        self.done.append(("step", number))
        figure = serving_figure(self.kind, self.looks, self.table, cell, point)
        if figure is None:
            return "spoilt", cell[0], cell[1]
        work.take(figure)
        return "figure", figure

    def put(self, top, look, figure):
        """The entry stands at the cell from now on; the old one is told."""
        cell = (top, look)
        if not is_cell(self.kind, self.looks, cell) or not is_entry(self.kind, figure):
            raise NoCell("no cell, or nothing that may stand at one")
        old = entry(self.kind, self.looks, self.table, cell)
        put_entry(self.kind, self.looks, self.table, cell, figure)
        self.done.append(("put", top, look, figure))
        return old

    def row(self, number):
        """The figures that the work has come to."""
        return list(self.work_of(number).figures)

    def rest(self, number):
        """What the figures so far leave of x, and how many are yet to come."""
        work = self.work_of(number)
        left = work.left()
        taken = (worth(self.kind, work.figures) * work.divisor) << (bits_of(self.kind[0]) * left)
        return work.x - taken, left

    def looked(self):
        """The cells at which steps have looked, in order, each with how often."""
        return [(cell, self.times[cell]) for cell in sorted(self.times)]

    def wrong(self, sight):
        """All met cells at which no good figure stands, in order."""
        return all_wrong(half_of(self.kind, self.looks), met_sheet(self.kind, self.looks, sight), self.table)

    def entries(self):
        """The table as it stands."""
        return copy_of_table(self.table)

    def deeds(self):
        """All that was done on the bench, in order."""
        return list(self.done)


def do_deed(bench, deed):
    """Does the deed on the bench, and tells whether it was one: a step of a work that is done is none."""
    match deed:
        case ("begin", x, divisor, many):
            bench.begin(x, divisor, many)
        case ("rows", x, divisor, many):
            bench.begin_rows(x, divisor, many)
        case ("put", top, look, figure):
            bench.put(top, look, figure)
        case ("step", number):
            return bench.go(number) != ("done",)
    return True


def replayed(kind, looks, table, deeds):
    """A bench on which the deeds were done anew."""
    bench = Bench(kind, looks, table)
    for number, deed in enumerate(deeds):
        try:
            done = do_deed(bench, deed)
        except (NoRoom, NoWork, NoCell):
            raise NoDeed(number) from None
        if not done:
            raise NoDeed(number)
    return bench
