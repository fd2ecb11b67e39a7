import random
import subprocess
import sys
import unittest
from pathlib import Path

from slackfigures.errors import NoRoom, SlackError, Spoilt
from slackfigures.quotients import divide, quotient, room, spoilt_by
from slackfigures.rows import worth
from slackfigures.tables import first_fault, plain_table
from tests.common import (
    KINDS, cell_places, cells_reckoned, figures_of, filled_table, has_room_reckoned, is_met_reckoned, is_whole,
    room_reckoned, scaled_reckoned, serves_reckoned, shown_reckoned, with_entry,
)
from tests.divisions import BOTH_SIGHTS, ONE_SIGHT, some_pairs, tables_let_by, wrong_tables

TOP = Path(__file__).resolve().parent.parent


def divided_reckoned(kind, looks, table, x, divisor, many):
    """What the division by the table comes to: ("no room",), ("spoilt", step) or ("told", row)."""
    if not has_room_reckoned(kind, x, divisor, many):
        return ("no room",)
    wide, scaled, rest = scaled_reckoned(kind, looks, x, divisor, many)
    row = []
    for step in range(many):
        point = (wide, scaled, kind[0] * rest)
        line, place = cell_places(kind, looks, shown_reckoned(looks, 1, point)[0])
        figure = table[line][place]
        if figure is None or not serves_reckoned(kind, figure, point):
            return "spoilt", step
        row.append(figure)
        rest = kind[0] * rest - figure * scaled
    return "told", row


def divided(divide_by, kind, looks, table, x, divisor, many):
    """The same, as the program tells it."""
    try:
        row, rest = divide_by(kind, looks, table, x, divisor, many)
    except NoRoom:
        return ("no room",)
    except Spoilt as refused:
        return "spoilt", refused.step
    return "told", row


class TestRoom(unittest.TestCase):
    def test_some_numbers_of_all_kinds(self):
        for kind in KINDS:
            for x, divisor in some_pairs(kind, 60):
                told = room(kind, x, divisor)
                self.assertTrue(is_whole(told) and told >= 0)
                self.assertTrue(has_room_reckoned(kind, x, divisor, told))
                self.assertTrue(told == 0 or not has_room_reckoned(kind, x, divisor, told - 1))

    def test_nought_needs_none(self):
        for kind in KINDS:
            for divisor in (1, 2, 10 ** 200 - 1):
                self.assertEqual(room(kind, 0, divisor), 0)

    def test_at_the_edge(self):
        for kind in KINDS:
            base, most = kind
            for divisor in (1, 3, 105, 10 ** 59):
                for many in (0, 1, 2, 17, 250):
                    edge = most * divisor * base ** many // (base - 1)
                    for sign in (1, -1):
                        self.assertEqual(room(kind, sign * (edge + 1), divisor), many + 1)
                        self.assertEqual(room(kind, sign * edge, divisor), many)

    def test_written_out(self):
        self.assertEqual(room((4, 2), 2, 3), 0)
        self.assertEqual(room((4, 2), 3, 3), 1)
        self.assertEqual(room((4, 2), 8, 3), 1)
        self.assertEqual(room((4, 2), -9, 3), 2)
        self.assertEqual(room((2, 1), 1, 1), 0)
        self.assertEqual(room((2, 1), -2, 1), 1)
        self.assertEqual(room((2, 1), 2 ** 660, 1), 660)


class TestDivide(unittest.TestCase):
    def assert_division(self, kind, looks, table, x, divisor, many):
        row, rest = told = divide(kind, looks, table, x, divisor, many)
        self.assertIsInstance(told, tuple)
        self.assertIsInstance(row, list)
        self.assertEqual(("told", row), divided_reckoned(kind, looks, table, x, divisor, many))
        self.assertEqual(len(row), many)
        self.assertTrue(all(is_whole(figure) and figure in figures_of(kind) for figure in row))
        self.assertTrue(is_whole(rest))
        self.assertEqual(rest, x - worth(kind, row) * divisor)
        base, most = kind
        self.assertLessEqual((base - 1) * abs(rest), most * divisor)

    def test_by_tables_let_by_never_refused(self):
        for kind, looks in BOTH_SIGHTS + ONE_SIGHT:
            for table in tables_let_by(kind, looks, 1):
                copy = [list(row) for row in table]
                for x, divisor in some_pairs(kind, 30):
                    least = room_reckoned(kind, x, divisor)
                    for many in sorted({least, least + 1, least + 6}):
                        self.assert_division(kind, looks, table, x, divisor, many)
                self.assertEqual(table, copy)

    def test_by_tables_let_by_for_sight_2(self):
        for kind, looks in BOTH_SIGHTS:
            for table in tables_let_by(kind, looks, 2):
                for x, divisor in some_pairs(kind, 10):
                    self.assert_division(kind, looks, table, x, divisor, room_reckoned(kind, x, divisor))

    def test_250_figures(self):
        for kind, looks in BOTH_SIGHTS:
            table = plain_table(kind, looks, 1)
            for x, divisor in ((10 ** 60, 10 ** 59 + 1), (-(10 ** 75), 3), (0, 10 ** 200 - 1), (1 - 10 ** 200, 10 ** 130)):
                self.assert_division(kind, looks, table, x, divisor, 250)

    def test_no_figures(self):
        for kind, looks in BOTH_SIGHTS:
            base, most = kind
            for table in (plain_table(kind, looks, 1), filled_table(kind, looks, lambda cell: None)):
                for divisor in (1, 2, 105, 10 ** 59):
                    edge = most * divisor // (base - 1)
                    for x in (0, edge, -edge):
                        self.assertEqual(divide(kind, looks, table, x, divisor, 0), ([], x))
                    for x in (edge + 1, -edge - 1):
                        with self.assertRaises(NoRoom):
                            divide(kind, looks, table, x, divisor, 0)

    def test_small_divisors(self):
        # Such as have fewer bits than tops or than parts, so that both are doubled first.
        for kind, looks in BOTH_SIGHTS + ONE_SIGHT:
            for table in tables_let_by(kind, looks, 1):
                for divisor in range(1, 10):
                    for x in range(-divisor - 3, divisor + 4):
                        least = room_reckoned(kind, x, divisor)
                        for many in (least, least + 1):
                            self.assert_division(kind, looks, table, x, divisor, many)

    def test_too_few_figures(self):
        for kind, looks in BOTH_SIGHTS:
            # A wrong table is none the worse: there is no room first.
            for table in (plain_table(kind, looks, 1), filled_table(kind, looks, lambda cell: None)):
                for x, divisor in some_pairs(kind, 30):
                    least = room_reckoned(kind, x, divisor)
                    for many in sorted({0, least // 2, least - 1}):
                        if 0 <= many < least:
                            with self.assertRaises(NoRoom) as caught:
                                divide(kind, looks, table, x, divisor, many)
                            self.assertIs(type(caught.exception), NoRoom)

    def test_at_the_edge_of_the_room(self):
        for kind, looks in BOTH_SIGHTS + ONE_SIGHT:
            base, most = kind
            for table in tables_let_by(kind, looks, 1):
                for divisor in (1, 3, 15, 105, 10 ** 59 + 3):
                    for many in (0, 1, 2, 9):
                        edge = most * divisor * base ** many // (base - 1)
                        for sign in (1, -1):
                            self.assert_division(kind, looks, table, sign * edge, divisor, many)
                            with self.assertRaises(NoRoom):
                                divide(kind, looks, table, sign * (edge + 1), divisor, many)

    def test_wrong_tables(self):
        spoilt_at = set()
        for kind, looks in BOTH_SIGHTS:
            for table in wrong_tables(kind, looks, 1):
                for x, divisor in some_pairs(kind, 25):
                    least = room_reckoned(kind, x, divisor)
                    for many in sorted({max(0, least - 1), least, least + 3}):
                        expected = divided_reckoned(kind, looks, table, x, divisor, many)
                        told = divided(divide, kind, looks, table, x, divisor, many)
                        self.assertEqual(told, expected, (kind, looks, x, divisor, many))
                        if expected[0] == "spoilt":
                            spoilt_at.add(expected[1])
        self.assertLessEqual(set(range(6)), spoilt_at)

    def test_spoilt_is_a_slack_error(self):
        table = filled_table((4, 2), (4, 4), lambda cell: None)
        with self.assertRaises(SlackError) as caught:
            divide((4, 2), (4, 4), table, 10, 3, 5)
        self.assertIs(type(caught.exception), Spoilt)
        self.assertEqual(caught.exception.step, 0)

    def test_written_out(self):
        table = plain_table((2, 1), (1, 0), 1)
        # Without a figure 0 near nought: 5 by 3 is 1 + 1 less 1/2 and so on.
        self.assertEqual(divide((2, 1), (1, 0), table, 5, 3, 1), ([1], 2))
        self.assertEqual(divide((2, 1), (1, 0), table, -5, 3, 1), ([-1], -2))
        self.assertEqual(divide((2, 1), (1, 0), table, 5, 3, 2), ([1, -1], 2))

    def test_told_rows_are_the_askers_own(self):
        table = plain_table((4, 2), (4, 4), 1)
        first = divide((4, 2), (4, 4), table, 1000, 7, 9)
        copy = (list(first[0]), first[1])
        second = divide((4, 2), (4, 4), table, 1000, 7, 9)
        self.assertIsNot(first[0], second[0])
        first[0][0] = 9
        first[0].append(3)
        self.assertEqual(second, copy)
        self.assertEqual(divide((4, 2), (4, 4), table, 1000, 7, 9), copy)

    def test_the_table_is_not_kept(self):
        table = plain_table((4, 2), (4, 4), 1)
        told = divide((4, 2), (4, 4), table, 1000, 7, 9)
        for row in table:
            row[:] = [None] * len(row)
        with self.assertRaises(Spoilt):
            divide((4, 2), (4, 4), table, 1000, 7, 9)
        self.assertEqual(divide((4, 2), (4, 4), plain_table((4, 2), (4, 4), 1), 1000, 7, 9), told)


class TestQuotient(unittest.TestCase):
    def test_against_divmod(self):
        for kind, looks in BOTH_SIGHTS + ONE_SIGHT:
            for table in tables_let_by(kind, looks, 1):
                for x, divisor in some_pairs(kind, 40):
                    told = quotient(kind, looks, table, x, divisor)
                    self.assertIsInstance(told, tuple)
                    self.assertEqual(told, divmod(x, divisor), (kind, looks, x, divisor))
                    self.assertTrue(is_whole(told[0]) and is_whole(told[1]))

    def test_small_numbers(self):
        for kind, looks in BOTH_SIGHTS + ONE_SIGHT:
            for table in tables_let_by(kind, looks, 1):
                for divisor in (1, 2, 3, 7, 8, 15, 16):
                    for x in range(-3 * divisor - 2, 3 * divisor + 3):
                        self.assertEqual(quotient(kind, looks, table, x, divisor), divmod(x, divisor))

    def test_room_above_250(self):
        for kind, looks in (((2, 1), (1, 1)), ((2, 1), (3, 3)), ((4, 2), (4, 4)), ((4, 3), (3, 2))):
            for table in tables_let_by(kind, looks, 1):
                for x in (10 ** 200 - 1, 1 - 10 ** 200, 7 ** 235):
                    for divisor in (1, 3, 11):
                        self.assertGreater(room(kind, x, divisor), 250)
                        self.assertEqual(quotient(kind, looks, table, x, divisor), divmod(x, divisor))

    def test_wrong_tables(self):
        refused = 0
        for kind, looks in BOTH_SIGHTS:
            for table in wrong_tables(kind, looks, 1):
                for x, divisor in some_pairs(kind, 25):
                    expected = divided_reckoned(kind, looks, table, x, divisor, room_reckoned(kind, x, divisor))
                    if expected[0] == "told":
                        self.assertEqual(quotient(kind, looks, table, x, divisor), divmod(x, divisor))
                    else:
                        refused += 1
                        with self.assertRaises(Spoilt) as caught:
                            quotient(kind, looks, table, x, divisor)
                        self.assertEqual(caught.exception.step, expected[1])
        self.assertGreater(refused, 100)


class TestSpoiltBy(unittest.TestCase):
    def assert_spoilt(self, kind, looks, table, fault):
        told = spoilt_by(kind, looks, table)
        self.assertIsInstance(told, tuple)
        x, divisor = told
        self.assertTrue(is_whole(x) and is_whole(divisor) and divisor >= 1)
        self.assertLess(max(abs(x), divisor), 10 ** 200)
        self.assertTrue(has_room_reckoned(kind, x, divisor, 1))
        with self.assertRaises(Spoilt) as caught:
            divide(kind, looks, table, x, divisor, 1)
        self.assertEqual(caught.exception.step, 0)
        wide, scaled, rest = scaled_reckoned(kind, looks, x, divisor, 1)
        self.assertEqual(shown_reckoned(looks, 1, (wide, scaled, kind[0] * rest)), [fault])
        self.assertEqual(spoilt_by(kind, looks, table), told)

    def test_of_tables_let_by_none(self):
        for kind, looks in BOTH_SIGHTS + ONE_SIGHT:
            for table in tables_let_by(kind, looks, 1):
                self.assertIsNone(spoilt_by(kind, looks, table))
        for kind, looks in BOTH_SIGHTS:
            for table in tables_let_by(kind, looks, 2):
                self.assertIsNone(spoilt_by(kind, looks, table))

    def test_one_entry_changed_at_every_cell(self):
        for kind, looks in (((2, 1), (1, 1)), ((2, 1), (1, 0)), ((4, 3), (2, 1)), ((4, 3), (3, 2))):
            table = plain_table(kind, looks, 1)
            for cell in cells_reckoned(kind, looks):
                for figure in list(figures_of(kind)) + [None]:
                    changed = with_entry(kind, looks, table, cell, figure)
                    fault = first_fault(kind, looks, 1, changed)
                    if fault is None:
                        self.assertIsNone(spoilt_by(kind, looks, changed))
                    else:
                        self.assertEqual(fault, cell)
                        self.assert_spoilt(kind, looks, changed, fault)

    def test_none_at_any_met_cell(self):
        for kind, looks in (((4, 2), (4, 4)), ((8, 7), (4, 3))):
            table = plain_table(kind, looks, 1)
            for cell in cells_reckoned(kind, looks)[::3]:
                if is_met_reckoned(kind, looks, 1, cell):
                    self.assert_spoilt(kind, looks, with_entry(kind, looks, table, cell, None), cell)

    def test_wrong_tables(self):
        for kind, looks in BOTH_SIGHTS:
            for table in wrong_tables(kind, looks, 1):
                copy = [list(row) for row in table]
                fault = first_fault(kind, looks, 1, table)
                # Of few changes all may be at cells that are not met, or to good figures.
                if fault is None:
                    self.assertIsNone(spoilt_by(kind, looks, table))
                else:
                    self.assert_spoilt(kind, looks, table, fault)
                self.assertEqual(table, copy)

    def test_looks_that_are_too_short(self):
        chance = random.Random(5)
        for kind in KINDS:
            for looks in ((1, 0), (2, 0), (1, 2), (3, 1)):
                anything = list(figures_of(kind)) + [None]
                table = filled_table(kind, looks, lambda cell: chance.choice(anything))
                fault = first_fault(kind, looks, 1, table)
                if fault is not None:
                    self.assert_spoilt(kind, looks, table, fault)


class TestQuick(unittest.TestCase):
    def test_long_divisions_within_a_moment(self):
        # In a process of its own, so that an answer that never comes fails, too.
        script = (
            "from slackfigures.quotients import divide, quotient\n"
            "from slackfigures.tables import plain_table\n"
            "for kind, looks in (((2, 1), (10, 3)), ((4, 2), (4, 4)), ((8, 7), (9, 2)), ((16, 12), (6, 4))):\n"
            "    table = plain_table(kind, looks, 1)\n"
            "    for turn in range(20):\n"
            "        divide(kind, looks, table, 10 ** 200 - turn, 10 ** 199 + turn, 250)\n"
            "        quotient(kind, looks, table, 10 ** 200 - turn, turn + 1)\n"
        )
        subprocess.run([sys.executable, "-c", script], cwd=TOP, check=True, timeout=60)


if __name__ == "__main__":
    unittest.main()
