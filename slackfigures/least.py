"""The least looks that have a plain table, and why none ahead of them has one."""

from slackfigures.cells import are_looks
from slackfigures.errors import NoLooks, NoTable
from slackfigures.points import two_points
from slackfigures.tables import plain_table


def looks_in_order():
    """All looks, by tops and parts together, then by tops."""
    return [
        (tops, both - tops)
        for both in range(1, 21)
        for tops in range(1, 11)
        if 0 <= both - tops <= 10
    ]


def first_bare_cell(kind, looks, sight):
    """The first met cell at which no figure is good, or None."""
    try:
        plain_table(kind, looks, sight)
    except NoTable as refused:
        return refused.top, refused.look
    return None


def least_looks(kind, sight):
    """The least looks, and a paper on each let ones ahead of them."""
    papers = []
    for looks in looks_in_order():
        if are_looks(kind, looks):
            cell = first_bare_cell(kind, looks, sight)
            if cell is None:
                return looks, papers
            one, other = two_points(kind, looks, sight, cell)
            papers.append((looks, cell, one, other))
    raise NoLooks("no looks that are let have a plain table")
