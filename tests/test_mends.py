import random
import subprocess
import sys
import unittest
from pathlib import Path

from slackfigures.errors import NoTable
from slackfigures.mends import mended
from slackfigures.tables import first_fault, is_table, plain_table
from tests.common import (
    KINDS, cell_places, cells_reckoned, copy_reckoned, figures_of, filled_table, good_reckoned, is_met_reckoned,
    with_entry,
)

TOP = Path(__file__).resolve().parent.parent

SERVED = [
    ((2, 1), (1, 1), 2), ((2, 1), (1, 0), 1), ((4, 2), (4, 4), 2), ((4, 2), (4, 3), 1), ((4, 3), (3, 2), 2),
    ((8, 5), (5, 5), 2), ((8, 7), (4, 3), 2), ((16, 15), (5, 4), 2),
]


def known_cells(kind, looks, sight):
    return {
        cell: good_reckoned(kind, looks, sight, cell) for cell in cells_reckoned(kind, looks)
        if is_met_reckoned(kind, looks, sight, cell)
    }


def mended_reckoned(kind, looks, table, known):
    """The table mended, by trying all good figures, and the cells that are changed."""
    better, cells = copy_reckoned(table), []
    for cell in sorted(known):
        line, place = cell_places(kind, looks, cell)
        old = table[line][place]
        if old not in known[cell]:
            better[line][place] = min(known[cell], key=lambda figure: abs(figure - (old or 0)))
            cells.append(cell)
    return better, cells


class TestMended(unittest.TestCase):
    def assert_mended(self, kind, looks, sight, table, known):
        copy = copy_reckoned(table)
        told = mended(kind, looks, sight, table)
        self.assertIs(type(told), tuple)
        better, cells = told
        self.assertEqual(told, mended_reckoned(kind, looks, table, known))
        self.assertEqual(table, copy)
        self.assertTrue(is_table(kind, looks, better))
        self.assertIsNone(first_fault(kind, looks, sight, better))
        self.assertTrue(all(type(cell) is tuple for cell in cells))
        self.assertEqual(mended(kind, looks, sight, better), (better, []))
        return cells

    def test_a_table_that_is_let_by_stays(self):
        chance = random.Random(51)
        for kind, looks, sight in SERVED:
            known = known_cells(kind, looks, sight)
            anything = list(figures_of(kind)) + [None]
            plain = plain_table(kind, looks, sight)
            other = filled_table(kind, looks, lambda cell: chance.choice(known.get(cell, anything)))
            for table in (plain, other):
                self.assertEqual(self.assert_mended(kind, looks, sight, table, known), [])

    def test_some_entries_changed(self):
        chance = random.Random(52)
        for kind, looks, sight in SERVED:
            known = known_cells(kind, looks, sight)
            anything = list(figures_of(kind)) + [None]
            for many in (1, 2, 5, 30):
                table = plain_table(kind, looks, sight)
                for cell in chance.choices(cells_reckoned(kind, looks), k=many):
                    line, place = cell_places(kind, looks, cell)
                    table[line][place] = chance.choice(anything)
                self.assert_mended(kind, looks, sight, table, known)

    def test_whole_rows_changed(self):
        for kind, looks, sight in SERVED:
            known = known_cells(kind, looks, sight)
            for figure in (None, 0, kind[1], -kind[1]):
                for line in (0, -1):
                    table = plain_table(kind, looks, sight)
                    table[line] = [figure] * len(table[line])
                    self.assert_mended(kind, looks, sight, table, known)

    def test_any_entries(self):
        chance = random.Random(53)
        for kind, looks, sight in SERVED:
            known = known_cells(kind, looks, sight)
            anything = list(figures_of(kind)) + [None]
            for told in (
                lambda cell: None, lambda cell: 0, lambda cell: kind[1], lambda cell: -kind[1],
                lambda cell: chance.choice(anything),
            ):
                self.assert_mended(kind, looks, sight, filled_table(kind, looks, told), known)

    def test_none_everywhere_becomes_the_plain_table(self):
        for kind, looks, sight in SERVED:
            table, cells = mended(kind, looks, sight, filled_table(kind, looks, lambda cell: None))
            self.assertEqual(table, plain_table(kind, looks, sight))
            self.assertEqual(cells, sorted(known_cells(kind, looks, sight)))

    def test_every_entry_changed_alone(self):
        for kind, looks, sight in SERVED[:2] + SERVED[4:5]:
            known = known_cells(kind, looks, sight)
            plain = plain_table(kind, looks, sight)
            for cell in cells_reckoned(kind, looks):
                for figure in list(figures_of(kind)) + [None]:
                    changed = with_entry(kind, looks, plain, cell, figure)
                    cells = self.assert_mended(kind, looks, sight, changed, known)
                    self.assertEqual(cells, [cell] if cell in known and figure not in known[cell] else [])

    def test_by_the_other_sight(self):
        kind, looks = (4, 2), (4, 4)
        self.assert_mended(kind, looks, 2, plain_table(kind, looks, 1), known_cells(kind, looks, 2))
        self.assertNotEqual(mended(kind, looks, 2, plain_table(kind, looks, 1))[1], [])
        self.assertEqual(mended(kind, looks, 1, plain_table(kind, looks, 2))[1], [])

    def test_no_table(self):
        for kind in KINDS:
            for looks in ((1, 0), (2, 1), (3, 1)):
                for sight in (1, 2):
                    bare = [cell for cell, good in known_cells(kind, looks, sight).items() if not good]
                    for figure in (None, 0, kind[1]):
                        table = filled_table(kind, looks, lambda cell: figure)
                        if bare:
                            with self.assertRaises(NoTable) as caught:
                                mended(kind, looks, sight, table)
                            self.assertIs(type(caught.exception), NoTable)
                            self.assertEqual((caught.exception.top, caught.exception.look), min(bare))
                            self.assertEqual(table, filled_table(kind, looks, lambda cell: figure))
                        else:
                            self.assertIsNone(first_fault(kind, looks, sight, mended(kind, looks, sight, table)[0]))

    def test_no_list_is_one_of_those_handed_in(self):
        table = plain_table((4, 2), (4, 4), 2)
        table[3] = [None] * len(table[3])
        one, other = mended((4, 2), (4, 4), 2, table), mended((4, 2), (4, 4), 2, table)
        lists = [table, one[0], other[0], one[1], other[1]] + table + one[0] + other[0]
        self.assertEqual(len({id(held) for held in lists}), len(lists))
        one[0][0][0] = 1
        one[1].append(1)
        self.assertEqual(mended((4, 2), (4, 4), 2, table), other)

    def test_within_a_moment(self):
        # In a process of its own, so that an answer that never comes fails, too.
        script = (
            "from slackfigures.mends import mended\n"
            "for turn in range(10):\n"
            "    mended((16, 14), (6, 4), 2, [[None] * 516 for top in range(32)])\n"
        )
        subprocess.run([sys.executable, "-c", script], cwd=TOP, check=True, timeout=60)


if __name__ == "__main__":
    unittest.main()
