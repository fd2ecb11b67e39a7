import random
import subprocess
import sys
import unittest
from pathlib import Path

from slackfigures.errors import NoTable
from slackfigures.tables import entry, first_fault, is_table, plain_table
from tests.common import (
    KINDS, NO_NUMBERS, cell_places, cells_reckoned, figures_of, filled_table, good_reckoned, half_reckoned,
    is_met_reckoned, is_whole, with_entry,
)

TOP = Path(__file__).resolve().parent.parent

SMALL = [(1, 0), (2, 1), (1, 2)]
# Of these there is a plain table by both sights.
SERVED = [((2, 1), (1, 1)), ((2, 1), (2, 2)), ((4, 2), (4, 4)), ((4, 3), (3, 2)), ((8, 7), (4, 3))]


def known_cells(kind, looks, sight):
    """For each cell, in order, the good figures, or None where it is not met."""
    return {
        cell: good_reckoned(kind, looks, sight, cell) if is_met_reckoned(kind, looks, sight, cell) else None
        for cell in cells_reckoned(kind, looks)
    }


class TestIsTable(unittest.TestCase):
    def check(self, kind, looks, thing, expected):
        self.assertIs(is_table(kind, looks, thing), expected)

    def test_right_ones(self):
        chance = random.Random(1)
        for kind in KINDS:
            for looks in SMALL + [(3, 1), (4, 0)]:
                for told in (
                    lambda cell: None, lambda cell: kind[1], lambda cell: -kind[1], lambda cell: 0,
                    lambda cell: chance.choice(list(figures_of(kind)) + [None]),
                ):
                    self.check(kind, looks, filled_table(kind, looks, told), True)

    def test_a_row_more_or_less(self):
        for kind in KINDS:
            for looks in SMALL:
                table = filled_table(kind, looks, lambda cell: 0)
                self.check(kind, looks, table[:-1], False)
                self.check(kind, looks, table[1:], False)
                self.check(kind, looks, table + [list(table[0])], False)
                self.check(kind, looks, table + [[]], False)
                self.check(kind, looks, [], False)

    def test_an_entry_more_or_less(self):
        for kind in KINDS:
            for looks in SMALL:
                for row in (0, -1):
                    for change in (lambda line: line[:-1], lambda line: line + [0], lambda line: []):
                        table = filled_table(kind, looks, lambda cell: 0)
                        table[row] = change(table[row])
                        self.check(kind, looks, table, False)

    def test_one_row_more_and_one_entry_less(self):
        table = filled_table((4, 2), (2, 1), lambda cell: 0)
        table[0].append(table[1].pop())
        self.check((4, 2), (2, 1), table, False)

    def test_an_entry_that_is_no_figure(self):
        for kind in KINDS:
            looks = (2, 1)
            table = filled_table(kind, looks, lambda cell: 0)
            cells = cells_reckoned(kind, looks)
            wrong = NO_NUMBERS + [kind[1] + 1, -kind[1] - 1, kind[0], 10 ** 59, -(10 ** 59)]
            for cell in (cells[0], cells[len(cells) // 2], cells[-1]):
                for thing in wrong:
                    self.check(kind, looks, with_entry(kind, looks, table, cell, thing), False)
                for thing in (None, kind[1], -kind[1]):
                    self.check(kind, looks, with_entry(kind, looks, table, cell, thing), True)

    def test_a_tuple_in_a_lists_place(self):
        table = filled_table((4, 2), (2, 1), lambda cell: 0)
        self.check((4, 2), (2, 1), tuple(table), False)
        for row in (0, 1):
            changed = [list(line) for line in table]
            changed[row] = tuple(changed[row])
            self.check((4, 2), (2, 1), changed, False)

    def test_things_of_any_kind(self):
        for thing in NO_NUMBERS + [None, 0, 1, -3, [[]], [None], [0], [[0]], ["0" * 8], [b"\x00" * 8], {0: [0] * 8}]:
            for looks in SMALL:
                self.check((2, 1), looks, thing, False)

    def test_rows_that_are_texts_dicts_or_numbers(self):
        for row in ("0" * 8, b"0" * 8, {k: 0 for k in range(8)}, range(8), (0,) * 8, None, 8, True):
            self.check((2, 1), (1, 0), [row], False)
        self.check((2, 1), (1, 0), [[0] * 8], True)

    def test_tables_of_other_kinds_and_looks(self):
        table = filled_table((4, 2), (2, 1), lambda cell: 2)
        self.check((4, 2), (2, 1), table, True)
        self.check((4, 3), (2, 1), table, True)
        self.check((8, 4), (2, 0), filled_table((8, 4), (2, 0), lambda cell: 3), True)
        for kind, looks in (((4, 2), (1, 1)), ((4, 2), (2, 2)), ((4, 2), (3, 1)), ((2, 1), (2, 1)), ((8, 4), (2, 1))):
            self.check(kind, looks, table, False)

    def test_tables_are_of_let_looks_alone(self):
        self.check((16, 8), (1, 9), filled_table((16, 8), (1, 9), lambda cell: 0), True)
        self.check((16, 8), (1, 10), filled_table((16, 8), (1, 10), lambda cell: 0), False)

    def test_the_thing_stays_as_it_was(self):
        table = filled_table((4, 2), (2, 1), lambda cell: 1)
        copy = [list(row) for row in table]
        is_table((4, 2), (2, 1), table)
        self.assertEqual(table, copy)


class TestEntry(unittest.TestCase):
    def test_every_cell(self):
        chance = random.Random(2)
        for kind in KINDS:
            for looks in SMALL + [(4, 1)]:
                table = filled_table(kind, looks, lambda cell: chance.choice(list(figures_of(kind)) + [None]))
                copy = [list(row) for row in table]
                for cell in cells_reckoned(kind, looks):
                    row, place = cell_places(kind, looks, cell)
                    self.assertEqual(entry(kind, looks, table, cell), table[row][place])
                self.assertEqual(table, copy)

    def test_one_entry_alone(self):
        for kind, looks in (((2, 1), (2, 1)), ((4, 3), (3, 0))):
            for marked in cells_reckoned(kind, looks):
                table = filled_table(kind, looks, lambda cell: 1 if cell == marked else None)
                found = [cell for cell in cells_reckoned(kind, looks) if entry(kind, looks, table, cell) is not None]
                self.assertEqual(found, [marked])


class TestFirstFault(unittest.TestCase):
    def test_of_plain_tables_none(self):
        for kind, looks in SERVED:
            for sight in (1, 2):
                self.assertIsNone(first_fault(kind, looks, sight, plain_table(kind, looks, sight)))

    def test_of_any_table_with_good_figures_none(self):
        chance = random.Random(3)
        for kind, looks in SERVED:
            for sight in (1, 2):
                known = known_cells(kind, looks, sight)
                any_entry = list(figures_of(kind)) + [None]
                table = filled_table(
                    kind, looks, lambda cell: chance.choice(any_entry if known[cell] is None else known[cell]),
                )
                self.assertIsNone(first_fault(kind, looks, sight, table))

    def test_one_entry_changed_at_every_cell(self):
        for kind, looks in (((2, 1), (1, 1)), ((4, 3), (3, 2))):
            for sight in (1, 2):
                known = known_cells(kind, looks, sight)
                table = plain_table(kind, looks, sight)
                for cell, good in known.items():
                    for figure in list(figures_of(kind)) + [None]:
                        changed = with_entry(kind, looks, table, cell, figure)
                        expected = None if good is None or figure in good else cell
                        self.assertEqual(first_fault(kind, looks, sight, changed), expected)

    def test_the_first_of_many(self):
        chance = random.Random(4)
        for kind, looks in SERVED:
            for sight in (1, 2):
                known = known_cells(kind, looks, sight)
                for turn in range(20):
                    changed = plain_table(kind, looks, sight)
                    for cell in chance.sample(sorted(known), 4):
                        row, place = cell_places(kind, looks, cell)
                        changed[row][place] = chance.choice(list(figures_of(kind)) + [None])
                    self.assert_first(kind, looks, sight, changed, known)

    def assert_first(self, kind, looks, sight, table, known):
        faults = []
        for cell in sorted(known):
            row, place = cell_places(kind, looks, cell)
            if known[cell] is not None and table[row][place] not in known[cell]:
                faults.append(cell)
        copy = [list(row) for row in table]
        told = first_fault(kind, looks, sight, table)
        self.assertEqual(told, faults[0] if faults else None)
        self.assertEqual(table, copy)
        self.assertEqual(first_fault(kind, looks, sight, table), told)

    def test_of_looks_that_are_too_short(self):
        for kind in KINDS:
            for looks in SMALL:
                for sight in (1, 2):
                    known = known_cells(kind, looks, sight)
                    for figure in (0, None, kind[1], -kind[1]):
                        self.assert_first(kind, looks, sight, filled_table(kind, looks, lambda cell: figure), known)

    def test_a_cell_is_a_tuple(self):
        told = first_fault((4, 2), (4, 4), 1, filled_table((4, 2), (4, 4), lambda cell: None))
        self.assertIsInstance(told, tuple)
        self.assertTrue(is_whole(told[0]) and is_whole(told[1]) and len(told) == 2)

    def test_by_sight_2_more_is_at_fault(self):
        table = plain_table((4, 2), (4, 4), 1)
        self.assertIsNone(first_fault((4, 2), (4, 4), 1, table))
        self.assertIsNotNone(first_fault((4, 2), (4, 4), 2, table))


class TestPlainTable(unittest.TestCase):
    def assert_plain(self, kind, looks, sight):
        known = known_cells(kind, looks, sight)
        bare = [cell for cell in known if known[cell] == []]
        if bare:
            with self.assertRaises(NoTable) as caught:
                plain_table(kind, looks, sight)
            self.assertIs(type(caught.exception), NoTable)
            self.assertEqual((caught.exception.top, caught.exception.look), min(bare))
            return
        told = plain_table(kind, looks, sight)
        nearest = lambda cell: None if known[cell] is None else min(known[cell], key=abs)
        self.assertEqual(told, filled_table(kind, looks, nearest))
        self.assertIs(is_table(kind, looks, told), True)

    def test_small_looks_of_all_kinds(self):
        for kind in KINDS:
            for looks in SMALL + [(3, 0), (2, 2)]:
                for sight in (1, 2):
                    self.assert_plain(kind, looks, sight)

    def test_looks_that_serve(self):
        for kind, looks in SERVED + [((4, 2), (4, 3)), ((8, 6), (5, 2)), ((2, 1), (6, 4))]:
            for sight in (1, 2):
                self.assert_plain(kind, looks, sight)

    def test_written_out(self):
        self.assertEqual(plain_table((2, 1), (1, 0), 1), [[None, None, -1, -1, 1, 1, None, None]])
        with self.assertRaises(NoTable) as caught:
            plain_table((2, 1), (1, 0), 2)
        self.assertEqual((caught.exception.top, caught.exception.look), (1, -1))

    def test_no_two_lists_are_one(self):
        for kind, looks in SERVED:
            one, other = plain_table(kind, looks, 2), plain_table(kind, looks, 2)
            self.assertEqual(one, other)
            lists = [one, other] + one + other
            self.assertEqual(len({id(held) for held in lists}), len(lists))

    def test_told_a_second_time_the_same(self):
        for kind, looks in SERVED:
            first = plain_table(kind, looks, 1)
            copy = [list(row) for row in first]
            for row in first:
                row[0] = 99
                row.pop()
            first.append([])
            self.assertEqual(plain_table(kind, looks, 1), copy)

    def test_tables_are_told_within_a_moment(self):
        # In a process of its own, so that an answer that never comes fails, too.
        script = (
            "from slackfigures.tables import first_fault, is_table, plain_table\n"
            "for kind, looks in (((2, 1), (10, 3)), ((4, 2), (8, 4)), ((8, 7), (9, 2)), ((16, 12), (6, 4))):\n"
            "    for sight in (1, 2):\n"
            "        table = plain_table(kind, looks, sight)\n"
            "        assert is_table(kind, looks, table)\n"
            "        assert first_fault(kind, looks, sight, table) is None\n"
        )
        subprocess.run([sys.executable, "-c", script], cwd=TOP, check=True, timeout=60)


if __name__ == "__main__":
    unittest.main()
