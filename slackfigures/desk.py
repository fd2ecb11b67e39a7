"""The desk: a kind, looks, a sight and a table, asked and told by rows of words."""

from slackfigures.cells import are_looks, first_top, good_figures, is_cell, is_met, is_top
from slackfigures.errors import NoLooks, NoRow, Spoilt
from slackfigures.kinds import is_figure, is_kind
from slackfigures.least import least_looks
from slackfigures.numerals import number_of
from slackfigures.quotients import quotient, spoilt_by
from slackfigures.tables import entry, first_fault, plain_table, put_entry
from slackfigures.texts import show_row


def needed(holds):
    """Refuses the row where something doesn't hold of its numbers."""
    if not holds:
        raise NoRow("a number where it may not be")


def numbers_of(words):
    """The numbers that the words write."""
    numbers = [number_of(word) for word in words]
    needed(None not in numbers)
    return numbers


def show_two(two):
    """Both numbers, or none."""
    return "none" if two is None else f"{two[0]} {two[1]}"


class Desk:
    """Has a kind, looks, a sight and a table of them."""

    def __init__(self):
        self.kind = (4, 2)
        self.looks = (4, 4)
        self.sight = 2
        self.table = plain_table((4, 2), (4, 4), 2)

    def say(self, row):
        """The answer to the row; NoRow of anything that is none."""
        words = row.split(" ") if isinstance(row, str) else []
        match words:
            case ["kind", base, most]:
                return self.take_kind(numbers_of([base, most]))
            case ["looks", tops, parts]:
                return self.take_looks(numbers_of([tops, parts]))
            case ["sight", sight]:
                return self.take_sight(numbers_of([sight])[0])
            case ["cell", top, look]:
                return self.show_cell(self.cell_of(top, look))
            case ["put", top, look, figure]:
                return self.put_at(self.cell_of(top, look), self.figure_of(figure))
            case ["good", top, look]:
                return self.show_good(self.cell_of(top, look))
            case ["fault"]:
                return show_two(first_fault(self.kind, self.looks, self.sight, self.table))
            case ["spoilt"]:
                return show_two(spoilt_by(self.kind, self.looks, self.table))
            case ["divide", x, divisor]:
                return self.show_quotient(numbers_of([x, divisor]))
            case ["least"]:
                return self.show_least()
            case ["show", top]:
                return self.show_top(numbers_of([top])[0])
            case _:
                raise NoRow("no row that the desk knows")

    def settle(self, kind, looks, sight):
        """Has these from now on, and their plain table; where there is none nothing is changed."""
        self.table = plain_table(kind, looks, sight)
        self.kind = kind
        self.looks = looks
        self.sight = sight
        return "ok"

    def take_kind(self, numbers):
        """Has another kind."""
        kind = tuple(numbers)
        needed(is_kind(kind) and are_looks(kind, self.looks))
        return self.settle(kind, self.looks, self.sight)

    def take_looks(self, numbers):
        """Has other looks."""
        looks = tuple(numbers)
        needed(are_looks(self.kind, looks))
        return self.settle(self.kind, looks, self.sight)

    def take_sight(self, sight):
        """Has another sight."""
        needed(sight in (1, 2))
        return self.settle(self.kind, self.looks, sight)

    def cell_of(self, top, look):
        """The cell that the two words write."""
        cell = tuple(numbers_of([top, look]))
        needed(is_cell(self.kind, self.looks, cell))
        return cell

    def figure_of(self, word):
        """The entry that the word writes."""
        if word == "none":
            return None
        figure = numbers_of([word])[0]
        needed(is_figure(self.kind, figure))
        return figure

    def show_cell(self, cell):
        """What stands at the cell."""
        figure = entry(self.kind, self.looks, self.table, cell)
        return "none" if figure is None else str(figure)

    def put_at(self, cell, figure):
        """The entry stands at the cell from now on."""
        put_entry(self.kind, self.looks, self.table, cell, figure)
        return "ok"

    def show_good(self, cell):
        """The good figures of the cell."""
        if not is_met(self.kind, self.looks, self.sight, cell):
            return "unmet"
        good = good_figures(self.kind, self.looks, self.sight, cell)
        return " ".join([str(figure) for figure in good]) if good else "none"

    def show_quotient(self, numbers):
        """The quotient and the rest, or at which step it is spoilt."""
        x, divisor = numbers
        needed(divisor >= 1)
        try:
            return show_two(quotient(self.kind, self.looks, self.table, x, divisor))
        except Spoilt as refused:
            return f"spoilt {refused.step}"

    def show_least(self):
        """The least looks of the desk's kind and sight."""
        try:
            return show_two(least_looks(self.kind, self.sight)[0])
        except NoLooks:
            return "none"

    def show_top(self, top):
        """The row of the top."""
        needed(is_top(self.looks, top))
        return show_row(self.table[top - first_top(self.looks)])
