import random
import unittest

from slackfigures.cells import are_looks, good_figures, half_of, is_met
from tests.common import (
    BASES, KINDS, cells_reckoned, end_points, figures_of, good_reckoned, half_reckoned, is_met_reckoned,
    is_point_reckoned, is_whole, points_of_width, serves_reckoned, shown_reckoned, tops_reckoned,
)

SMALL = [(1, 0), (2, 0), (1, 1), (2, 1), (1, 2), (3, 0), (2, 2), (3, 1), (1, 3), (3, 3)]
ALL_TO_8 = [(tops, parts) for tops in range(1, 9) for parts in range(9)]


def served_by_all(kind, looks, sight, wide):
    """For each cell that points of the width show, the figures that serve each of them."""
    serving = {}
    for point in points_of_width(kind, wide):
        figures = {figure for figure in figures_of(kind) if serves_reckoned(kind, figure, point)}
        for cell in shown_reckoned(looks, sight, point):
            serving[cell] = serving.get(cell, figures) & figures
    return serving


def edge_cells(kind, looks, sight):
    """Those cells with the first and last tops at which it changes whether they are met, and those beside."""
    half = half_reckoned(kind, looks)
    tops = tops_reckoned(looks)
    cells = []
    for top in sorted({tops[0], tops[0] + len(tops) // 3, tops[-1]}):
        met = [is_met_reckoned(kind, looks, sight, (top, look)) for look in range(-half, half)]
        for place in range(1, 2 * half):
            if met[place] != met[place - 1]:
                cells.extend([(top, place - 1 - half), (top, place - half)])
    return cells


class TestAreLooks(unittest.TestCase):
    def test_all_near_the_bounds(self):
        for kind in KINDS:
            for tops in range(-2, 14):
                for parts in range(-3, 14):
                    told = are_looks(kind, (tops, parts))
                    self.assertIsInstance(told, bool)
                    let = False
                    if 1 <= tops <= 10 and 0 <= parts <= 10:
                        let = 2 ** (tops - 1) * 2 * (kind[0] * 2 ** parts + 2) <= 20000
                    self.assertIs(told, let, (kind, tops, parts))

    def test_just_below_and_just_above_20000_cells(self):
        # None have exactly 20000. Those that come closest have 18432, and 32772 to 32800.
        for base, let, not_let in (
            (2, (10, 3), (4, 10)), (2, (4, 9), (5, 9)), (4, (10, 2), (3, 10)), (4, (3, 9), (4, 9)),
            (8, (10, 1), (2, 10)), (8, (1, 10), (3, 9)), (16, (10, 0), (1, 10)), (16, (1, 9), (2, 9)),
        ):
            for most in range(base // 2, base):
                self.assertIs(are_looks((base, most), let), True, (base, let))
                self.assertIs(are_looks((base, most), not_let), False, (base, not_let))

    def test_single_bounds(self):
        for kind in KINDS:
            self.assertIs(are_looks(kind, (1, 0)), True)
            self.assertIs(are_looks(kind, (10, 0)), True)
            for looks in ((0, 0), (0, 3), (-1, 0), (11, 0), (1, -1), (1, 11), (5, -1), (0, -1), (0, 11)):
                self.assertIs(are_looks(kind, looks), False, looks)
            self.assertIs(are_looks(kind, (1, 10)), kind[0] < 16)

    def test_any_whole_numbers(self):
        far = 10 ** 59
        for kind in KINDS:
            for looks in ((far, 0), (1, far), (far, far), (-far, 0), (1, -far), (-far, -far), (-far, far)):
                self.assertIs(are_looks(kind, looks), False)


class TestHalfOf(unittest.TestCase):
    def test_written_out(self):
        self.assertEqual(half_of((4, 2), (4, 4)), 66)
        self.assertEqual(half_of((2, 1), (1, 0)), 4)
        self.assertEqual(half_of((16, 15), (3, 10)), 16386)

    def test_all(self):
        for kind in KINDS:
            for tops in range(1, 11):
                for parts in range(11):
                    told = half_of(kind, (tops, parts))
                    self.assertTrue(is_whole(told))
                    self.assertEqual(told, kind[0] * 2 ** parts + 2)


class TestEachPoint(unittest.TestCase):
    """Against all points of several widths, looked through one by one."""

    def test_points_cells_are_met_and_good_figures_serve(self):
        for kind in KINDS:
            for looks in SMALL:
                for sight in (1, 2):
                    for wide in range(max(looks), {2: 7, 4: 6, 8: 5, 16: 4}[kind[0]]):
                        self.assert_points_met(kind, looks, sight, wide)

    def assert_points_met(self, kind, looks, sight, wide):
        for cell, serving in served_by_all(kind, looks, sight, wide).items():
            self.assertIs(is_met(kind, looks, sight, cell), True, (kind, looks, sight, cell))
            told = good_figures(kind, looks, sight, cell)
            self.assertLessEqual(set(told), serving, (kind, looks, sight, cell))

    def test_a_width_great_enough_tells_all(self):
        # At so small looks some width up to 8 has points for all that any width has.
        for kind, looks in (((2, 1), (1, 0)), ((2, 1), (2, 1)), ((4, 2), (1, 0)), ((4, 3), (1, 1)), ((4, 3), (2, 1))):
            for sight in (1, 2):
                serving = served_by_all(kind, looks, sight, 8 if kind[0] == 2 else 7)
                for cell in cells_reckoned(kind, looks):
                    self.assertIs(is_met(kind, looks, sight, cell), cell in serving, (kind, looks, sight, cell))
                    expected = sorted(serving.get(cell, figures_of(kind)))
                    self.assertEqual(good_figures(kind, looks, sight, cell), expected, (kind, looks, sight, cell))


class TestEndPoints(unittest.TestCase):
    """Against points of a great width at the ends of the cells."""

    def assert_cell(self, kind, looks, sight, cell):
        met = is_met(kind, looks, sight, cell)
        self.assertIs(met, is_met_reckoned(kind, looks, sight, cell), (kind, looks, sight, cell))
        told = good_figures(kind, looks, sight, cell)
        self.assertEqual(told, good_reckoned(kind, looks, sight, cell), (kind, looks, sight, cell))
        if not met:
            self.assertEqual(told, list(figures_of(kind)))

    def test_the_end_points_show_their_cells(self):
        for kind in KINDS:
            for looks in SMALL:
                for sight in (1, 2):
                    for cell in cells_reckoned(kind, looks):
                        for point in end_points(kind, looks, sight, cell):
                            self.assertTrue(is_point_reckoned(kind, looks, point))
                            self.assertIn(cell, shown_reckoned(looks, sight, point))

    def test_each_cell_of_small_looks(self):
        for kind in KINDS:
            for looks in SMALL:
                for sight in (1, 2):
                    for cell in cells_reckoned(kind, looks):
                        self.assert_cell(kind, looks, sight, cell)

    def test_some_cells_of_any_looks(self):
        chance = random.Random(11)
        for kind in KINDS:
            for looks in ALL_TO_8 + [(10, 10), (10, 0), (1, 10)]:
                half = half_reckoned(kind, looks)
                tops = tops_reckoned(looks)
                for turn in range(12):
                    cell = (chance.choice(tops), chance.randrange(-half, half))
                    self.assert_cell(kind, looks, chance.choice((1, 2)), cell)

    def test_beside_the_edge_of_those_that_are_met(self):
        for kind in KINDS:
            for looks in SMALL + [(5, 2), (2, 4), (8, 0)]:
                for sight in (1, 2):
                    cells = edge_cells(kind, looks, sight)
                    self.assertGreaterEqual(len(cells), 4)
                    for cell in cells:
                        self.assert_cell(kind, looks, sight, cell)

    def test_all_cells_of_a_few_looks(self):
        for kind, looks in (((4, 2), (4, 4)), ((2, 1), (5, 5)), ((8, 7), (4, 3)), ((16, 15), (5, 2))):
            for sight in (1, 2):
                for cell in cells_reckoned(kind, looks):
                    self.assert_cell(kind, looks, sight, cell)


class TestMet(unittest.TestCase):
    def test_met_cells_stand_side_by_side(self):
        for kind in KINDS:
            for looks in SMALL + [(6, 3)]:
                half = half_reckoned(kind, looks)
                for sight in (1, 2):
                    for top in tops_reckoned(looks):
                        met = [look for look in range(-half, half) if is_met(kind, looks, sight, (top, look))]
                        self.assertEqual(met, list(range(met[0], met[-1] + 1)))
                        self.assertEqual(met[0], -met[-1] - sight)

    def test_sight_2_sees_what_sight_1_sees_and_one_less(self):
        for kind in KINDS:
            for looks in SMALL:
                half = half_reckoned(kind, looks)
                for top, look in cells_reckoned(kind, looks):
                    by_one = is_met(kind, looks, 1, (top, look))
                    beside = look + 1 < half and is_met(kind, looks, 1, (top, look + 1))
                    self.assertIs(is_met(kind, looks, 2, (top, look)), by_one or beside)

    def test_the_upper_end_is_not_come_to(self):
        # With most = base - 1 rests come up to base times the divisor, but no divisor to 2 ** wide.
        for base in BASES:
            kind = (base, base - 1)
            for looks in ((1, 0), (3, 2)):
                top = 2 ** looks[0] - 1
                end = base * 2 ** looks[1]
                self.assertIs(is_met(kind, looks, 1, (top, end)), False)
                self.assertIs(is_met(kind, looks, 1, (top, end - 1)), True)
                self.assertIs(is_met(kind, looks, 1, (top, -end)), True)
                self.assertIs(is_met(kind, looks, 1, (top, -end - 1)), False)
                self.assertIs(is_met(kind, looks, 2, (top, -end - 1)), True)
                self.assertIs(is_met(kind, looks, 2, (top, -end - 2)), False)
                self.assertIs(is_met(kind, looks, 2, (top, end)), False)


class TestGood(unittest.TestCase):
    def test_written_out(self):
        self.assertEqual(good_figures((2, 1), (1, 0), 1, (1, 0)), [1])
        self.assertEqual(good_figures((2, 1), (1, 0), 2, (1, -1)), [])
        self.assertEqual(good_figures((2, 1), (1, 1), 2, (1, -1)), [0])
        self.assertEqual(good_figures((4, 2), (4, 4), 2, (8, 0)), [0])

    def test_rising_and_each_once(self):
        for kind in KINDS:
            for looks in SMALL:
                for sight in (1, 2):
                    for cell in cells_reckoned(kind, looks):
                        told = good_figures(kind, looks, sight, cell)
                        self.assertIsInstance(told, list)
                        self.assertTrue(all(is_whole(figure) for figure in told))
                        self.assertEqual(told, sorted(set(told)))

    def test_a_new_list_each_time(self):
        for cell in ((1, 0), (1, -4), (1, 3), (1, 1)):
            first = good_figures((2, 1), (1, 0), 1, cell)
            kept = list(first)
            second = good_figures((2, 1), (1, 0), 1, cell)
            self.assertIsNot(first, second)
            first.append(9)
            self.assertEqual(second, kept)
            self.assertEqual(good_figures((2, 1), (1, 0), 1, cell), kept)


if __name__ == "__main__":
    unittest.main()
