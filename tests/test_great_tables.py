"""Tables of some thousand to twenty thousand cells: the answers, and how soon they come."""

import subprocess
import sys
import unittest
from functools import cache
from pathlib import Path

from slackfigures.cells import good_figures, is_met
from slackfigures.errors import NoTable
from slackfigures.quotients import spoilt_by
from slackfigures.tables import first_fault, plain_table
from tests.common import (
    cell_places, cells_reckoned, figures_of, filled_table, good_reckoned, is_met_reckoned, tops_reckoned, with_entry,
)

TOP = Path(__file__).resolve().parent.parent

GREAT = [
    ((8, 7), (4, 3)), ((8, 7), (5, 3)), ((16, 15), (6, 3)), ((8, 6), (6, 4)), ((16, 14), (6, 4)), ((4, 2), (8, 4)),
    ((2, 1), (10, 3)), ((2, 1), (4, 9)), ((4, 3), (3, 9)),
]
TOO_SHORT = [
    ((16, 8), (6, 4)), ((16, 10), (6, 4)), ((8, 4), (7, 3)), ((8, 4), (3, 8)), ((4, 2), (10, 2)), ((16, 15), (3, 7)),
]


@cache
def known_cells(kind, looks, sight):
    """For each met cell, in order, the good figures, asked cell by cell."""
    return {
        cell: good_figures(kind, looks, sight, cell) for cell in cells_reckoned(kind, looks)
        if is_met(kind, looks, sight, cell)
    }


def looks_of(known, top):
    return [cell for cell in known if cell[0] == top]


class TestGreatTables(unittest.TestCase):
    def test_what_is_asked_cell_by_cell_is_as_reckoned(self):
        # The cells by which the tests below go, at each top's edges and some between.
        for kind, looks in GREAT[2:5]:
            for sight in (1, 2):
                known = known_cells(kind, looks, sight)
                for top in (tops_reckoned(looks)[0], tops_reckoned(looks)[9], tops_reckoned(looks)[-1]):
                    row = looks_of(known, top)
                    for cell in row[:3] + row[3:-3:17] + row[-3:]:
                        self.assertEqual(known[cell], good_reckoned(kind, looks, sight, cell))
                    for look in (row[0][1] - 1, row[-1][1] + 1):
                        self.assertFalse(is_met_reckoned(kind, looks, sight, (top, look)))

    def test_plain_tables(self):
        for kind, looks in GREAT:
            for sight in (1, 2):
                known = known_cells(kind, looks, sight)
                nearest = {cell: min(good, key=abs) for cell, good in known.items()}
                self.assertEqual(plain_table(kind, looks, sight), filled_table(kind, looks, nearest.get))

    def test_no_tables(self):
        for kind, looks in TOO_SHORT:
            for sight in (1, 2):
                bare = [cell for cell, good in known_cells(kind, looks, sight).items() if not good]
                with self.assertRaises(NoTable) as caught:
                    plain_table(kind, looks, sight)
                self.assertEqual((caught.exception.top, caught.exception.look), min(bare))

    def test_no_faults(self):
        for kind, looks in GREAT:
            table = plain_table(kind, looks, 2)
            self.assertIsNone(first_fault(kind, looks, 2, table))
            self.assertIsNone(first_fault(kind, looks, 1, table))
            self.assertIsNone(spoilt_by(kind, looks, table))
            for told in (min, max):
                known = known_cells(kind, looks, 2)
                table = filled_table(kind, looks, lambda cell: told(known[cell]) if cell in known else None)
                self.assertIsNone(first_fault(kind, looks, 2, table))

    def test_one_entry_changed(self):
        for kind, looks in GREAT:
            for sight in (1, 2):
                known = known_cells(kind, looks, sight)
                plain = plain_table(kind, looks, sight)
                tops = tops_reckoned(looks)
                for top in (tops[0], tops[len(tops) // 2], tops[-1]):
                    row = looks_of(known, top)
                    for cell in (row[0], row[1], row[len(row) // 3], row[len(row) // 2], row[-2], row[-1]):
                        self.assert_changed(kind, looks, sight, plain, cell, known[cell])

    def assert_changed(self, kind, looks, sight, plain, cell, good):
        figures = {good[0] - 1, good[0], good[-1], good[-1] + 1, kind[1], -kind[1], 0} & set(figures_of(kind))
        for figure in [None] + sorted(figures):
            changed = with_entry(kind, looks, plain, cell, figure)
            self.assertEqual(first_fault(kind, looks, sight, changed), None if figure in good else cell)

    def test_entries_that_are_not_met(self):
        for kind, looks in GREAT[:5]:
            for sight in (1, 2):
                known = known_cells(kind, looks, sight)
                table = plain_table(kind, looks, sight)
                for cell in cells_reckoned(kind, looks):
                    if cell not in known:
                        line, place = cell_places(kind, looks, cell)
                        table[line][place] = kind[1]
                self.assertIsNone(first_fault(kind, looks, sight, table))

    def test_the_first_of_two(self):
        for kind, looks in GREAT:
            for sight in (1, 2):
                known = known_cells(kind, looks, sight)
                plain = plain_table(kind, looks, sight)
                tops = tops_reckoned(looks)
                first, last = looks_of(known, tops[0]), looks_of(known, tops[-1])
                for one, other in (
                    (first[0], last[0]), (first[-1], last[0]), (first[0], first[-1]), (last[0], last[-1]),
                ):
                    both = with_entry(kind, looks, with_entry(kind, looks, plain, one, None), other, None)
                    self.assertEqual(first_fault(kind, looks, sight, both), one)

    def test_two_entries_that_are_exchanged(self):
        # As many of each figure as there should be, but not where they should be.
        for kind, looks in GREAT:
            known = known_cells(kind, looks, 2)
            table = plain_table(kind, looks, 2)
            row = looks_of(known, tops_reckoned(looks)[-1])
            line, place = cell_places(kind, looks, row[0])
            other = cell_places(kind, looks, row[-1])[1]
            table[line][place], table[line][other] = table[line][other], table[line][place]
            self.assertEqual(first_fault(kind, looks, 2, table), row[0])

    def test_rounds_within_some_seconds(self):
        # In a process of its own, so that an answer that never comes fails, too. Fifty rounds take a tenth
        # of a second; by cells it would be three, so that the bound on five times fifty tells both apart.
        script = (
            "from slackfigures.quotients import spoilt_by\n"
            "from slackfigures.tables import first_fault, plain_table\n"
            "kind, looks = (16, 14), (6, 4)\n"
            "for turn in range(250):\n"
            "    table = plain_table(kind, looks, 2)\n"
            "    assert first_fault(kind, looks, 2, table) is None\n"
            "    assert first_fault(kind, looks, 1, table) is None\n"
            "    assert spoilt_by(kind, looks, table) is None\n"
        )
        subprocess.run([sys.executable, "-c", script], cwd=TOP, check=True, timeout=10)


if __name__ == "__main__":
    unittest.main()
