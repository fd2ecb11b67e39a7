import subprocess
import sys
import unittest
from pathlib import Path

from slackfigures.errors import NoRoom, Spoilt
from slackfigures.quotients import divide
from slackfigures.rows import worth
from slackfigures.tables import plain_table
from slackfigures.tworows import divide_rows, trail
from tests.common import (
    BITS, cell_places, figures_of, filled_table, has_room_reckoned, is_whole, next_pair_reckoned, room_reckoned,
    scaled_reckoned, serves_reckoned, shown_reckoned, signed,
)
from tests.divisions import BOTH_SIGHTS, some_pairs, tables_let_by, wrong_tables

TOP = Path(__file__).resolve().parent.parent


def walked(kind, looks, table, x, divisor, many):
    """("no room",), ("spoilt", step), or ("told", steps), with the worth of each step's pair beside it."""
    if not has_room_reckoned(kind, x, divisor, many):
        return ("no room",)
    base, parts = kind[0], looks[1]
    wide, scaled, rest = scaled_reckoned(kind, looks, x, divisor, many)
    width = wide + BITS[base] + 2
    pair = (rest % 2 ** width, 0)
    steps = []
    for step in range(many):
        one, other = base * pair[0] % 2 ** width, base * pair[1] % 2 ** width
        low = 2 ** (wide - parts)
        look = signed(one // low + other // low, width - wide + parts)
        line, place = cell_places(kind, looks, (scaled // 2 ** (wide - looks[0]), look))
        figure = table[line][place]
        if figure is None or not serves_reckoned(kind, figure, (wide, scaled, signed(one + other, width))):
            return "spoilt", step
        steps.append((pair[0], pair[1], look, figure))
        pair = next_pair_reckoned(width, one, other, -figure * scaled % 2 ** width)
    return "told", steps


def told_by(way, kind, looks, table, x, divisor, many):
    try:
        told = way(kind, looks, table, x, divisor, many)
    except NoRoom:
        return ("no room",)
    except Spoilt as refused:
        return "spoilt", refused.step
    return "told", told


class TestTwoRows(unittest.TestCase):
    def assert_division(self, kind, looks, table, x, divisor, many):
        base, most = kind
        row, rest = told = divide_rows(kind, looks, table, x, divisor, many)
        steps = trail(kind, looks, table, x, divisor, many)
        self.assertIsInstance(told, tuple)
        self.assertIsInstance(row, list)
        self.assertIsInstance(steps, list)
        self.assertEqual(("told", steps), walked(kind, looks, table, x, divisor, many))
        self.assertEqual(row, [step[3] for step in steps])
        self.assertEqual(len(row), many)
        self.assertTrue(is_whole(rest))
        self.assertEqual(rest, x - worth(kind, row) * divisor)
        self.assertLessEqual((base - 1) * abs(rest), most * divisor)
        self.assert_pairs(kind, looks, steps, x, divisor, many)

    def assert_pairs(self, kind, looks, steps, x, divisor, many):
        """Each pair's worth is the rest, and each look that of the rest times the base, or one less."""
        base = kind[0]
        wide, scaled, rest = scaled_reckoned(kind, looks, x, divisor, many)
        width = wide + BITS[base] + 2
        for step in steps:
            self.assertIsInstance(step, tuple)
            first, second, look, figure = step
            self.assertTrue(all(is_whole(number) for number in step))
            self.assertTrue(0 <= first < 2 ** width and 0 <= second < 2 ** width)
            self.assertIn(figure, figures_of(kind))
            self.assertEqual(signed(first + second, width), rest)
            point = (wide, scaled, base * rest)
            self.assertIn((scaled // 2 ** (wide - looks[0]), look), shown_reckoned(looks, 2, point))
            rest = base * rest - figure * scaled

    def test_by_tables_let_by_never_refused(self):
        for kind, looks in BOTH_SIGHTS:
            for table in tables_let_by(kind, looks, 2):
                copy = [list(row) for row in table]
                for x, divisor in some_pairs(kind, 25):
                    least = room_reckoned(kind, x, divisor)
                    for many in sorted({least, least + 1, least + 6}):
                        self.assert_division(kind, looks, table, x, divisor, many)
                self.assertEqual(table, copy)

    def test_250_figures(self):
        for kind, looks in BOTH_SIGHTS:
            table = plain_table(kind, looks, 2)
            for x, divisor in ((10 ** 60, 10 ** 59 + 1), (-(10 ** 75), 3), (0, 10 ** 200 - 1), (1 - 10 ** 200, 10 ** 130)):
                self.assert_division(kind, looks, table, x, divisor, 250)

    def test_small_divisors(self):
        for kind, looks in BOTH_SIGHTS:
            for table in tables_let_by(kind, looks, 2):
                for divisor in range(1, 10):
                    for x in range(-divisor - 3, divisor + 4):
                        least = room_reckoned(kind, x, divisor)
                        for many in (least, least + 4):
                            self.assert_division(kind, looks, table, x, divisor, many)

    def test_no_figures(self):
        for kind, looks in BOTH_SIGHTS:
            base, most = kind
            for table in (plain_table(kind, looks, 2), filled_table(kind, looks, lambda cell: None)):
                for divisor in (1, 105, 10 ** 59):
                    edge = most * divisor // (base - 1)
                    for x in (0, edge, -edge):
                        self.assertEqual(divide_rows(kind, looks, table, x, divisor, 0), ([], x))
                        self.assertEqual(trail(kind, looks, table, x, divisor, 0), [])
                    for x in (edge + 1, -edge - 1):
                        self.assert_no_room(kind, looks, table, x, divisor, 0)

    def assert_no_room(self, kind, looks, table, x, divisor, many):
        for way in (divide_rows, trail):
            with self.assertRaises(NoRoom) as caught:
                way(kind, looks, table, x, divisor, many)
            self.assertIs(type(caught.exception), NoRoom)

    def test_at_the_edge_of_the_room(self):
        for kind, looks in BOTH_SIGHTS:
            base, most = kind
            # A wrong table is none the worse: there is no room first.
            wrong = filled_table(kind, looks, lambda cell: None)
            for table in tables_let_by(kind, looks, 2):
                for divisor in (1, 3, 105, 10 ** 59 + 3):
                    for many in (0, 1, 2, 9):
                        edge = most * divisor * base ** many // (base - 1)
                        for sign in (1, -1):
                            self.assert_division(kind, looks, table, sign * edge, divisor, many)
                            self.assert_no_room(kind, looks, table, sign * (edge + 1), divisor, many)
                            self.assert_no_room(kind, looks, wrong, sign * (edge + 1), divisor, many)

    def test_wrong_tables(self):
        spoilt_at = set()
        for kind, looks in BOTH_SIGHTS:
            for table in wrong_tables(kind, looks, 2):
                for x, divisor in some_pairs(kind, 25):
                    least = room_reckoned(kind, x, divisor)
                    for many in sorted({max(0, least - 1), least, least + 3}):
                        expected = walked(kind, looks, table, x, divisor, many)
                        self.assertEqual(told_by(trail, kind, looks, table, x, divisor, many), expected)
                        told = told_by(divide_rows, kind, looks, table, x, divisor, many)
                        self.assertEqual(told[0], expected[0])
                        if expected[0] == "spoilt":
                            self.assertEqual(told, expected)
                            spoilt_at.add(expected[1])
        self.assertLessEqual(set(range(6)), spoilt_at)

    def test_a_table_for_sight_1_may_be_spoilt_in_two_rows(self):
        kind, looks = (4, 2), (4, 4)
        table = plain_table(kind, looks, 1)
        spoilt = 0
        for x, divisor in some_pairs(kind, 200):
            many = room_reckoned(kind, x, divisor) + 5
            divide(kind, looks, table, x, divisor, many)
            expected = walked(kind, looks, table, x, divisor, many)
            self.assertEqual(told_by(trail, kind, looks, table, x, divisor, many), expected)
            spoilt += expected[0] == "spoilt"
        self.assertGreater(spoilt, 0)

    def test_looks_are_at_times_one_less(self):
        # So that the tests above have seen rests that no row alone would show.
        for kind, looks in BOTH_SIGHTS:
            table = plain_table(kind, looks, 2)
            less = 0
            for x, divisor in some_pairs(kind, 40):
                many = room_reckoned(kind, x, divisor) + 5
                wide, scaled, rest = scaled_reckoned(kind, looks, x, divisor, many)
                for first, second, look, figure in trail(kind, looks, table, x, divisor, many):
                    looked = kind[0] * rest
                    less += look < looked // 2 ** (wide - looks[1])
                    rest = looked - figure * scaled
            self.assertGreater(less, 10)

    def test_written_out(self):
        table = plain_table((2, 1), (1, 1), 2)
        # 5 by 3 with two figures: the scaled divisor is 12, of the width 4, and the pairs are of the width 7.
        steps = trail((2, 1), (1, 1), table, 5, 3, 2)
        self.assertEqual(steps[0], (5, 0, 1, 1))
        self.assertEqual(steps[1], (10 ^ 116, 0, -1, 0))
        self.assertEqual(divide_rows((2, 1), (1, 1), table, 5, 3, 2), ([1, 0], -1))

    def test_told_lists_are_the_askers_own(self):
        table = plain_table((4, 2), (4, 4), 2)
        for way in (divide_rows, trail):
            first = way((4, 2), (4, 4), table, 1000, 7, 9)
            second = way((4, 2), (4, 4), table, 1000, 7, 9)
            told = first if way is trail else first[0]
            self.assertEqual(first, second)
            copy = list(told)
            told.append(7)
            told[0] = None
            third = way((4, 2), (4, 4), table, 1000, 7, 9)
            self.assertEqual(second if way is trail else second[0], copy)
            self.assertEqual(third, second)

    def test_long_divisions_within_a_moment(self):
        # In a process of its own, so that an answer that never comes fails, too.
        script = (
            "from slackfigures.tables import plain_table\n"
            "from slackfigures.tworows import divide_rows\n"
            "for kind, looks in (((2, 1), (10, 3)), ((4, 2), (4, 4)), ((8, 7), (9, 2)), ((16, 12), (6, 4))):\n"
            "    table = plain_table(kind, looks, 2)\n"
            "    for turn in range(20):\n"
            "        divide_rows(kind, looks, table, 10 ** 200 - turn, 10 ** 199 + turn, 250)\n"
        )
        subprocess.run([sys.executable, "-c", script], cwd=TOP, check=True, timeout=60)


if __name__ == "__main__":
    unittest.main()
