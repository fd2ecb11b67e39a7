"""The least looks that have a plain table, and why none ahead of them has one."""

from slackfigures.cells import are_looks, met_sheet
from slackfigures.errors import NoLooks
from slackfigures.points import two_points
from slackfigures.spans import first_bare


def looks_in_order():
    """All looks, by tops and parts together, then by tops."""
    return [
        (tops, both - tops)
        for both in range(1, 21)
        for tops in range(1, 11)
        if 0 <= both - tops <= 10
    ]


def least_looks(kind, sight):
    """The least looks, and a paper on each let ones ahead of them."""
    papers = []
    for looks in looks_in_order():
        if are_looks(kind, looks):
            cell = first_bare(met_sheet(kind, looks, sight))
            if cell is None:
                return looks, papers
            one, other = two_points(kind, looks, sight, cell)
            papers.append((looks, cell, one, other))
    raise NoLooks("no looks that are let have a plain table")
