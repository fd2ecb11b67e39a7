import random
import unittest

from slackfigures.cells import good_figures, is_met
from slackfigures.points import cells_of, is_point, serves, spoiler, two_points
from tests.common import (
    KINDS, cells_reckoned, figures_of, good_reckoned, half_reckoned, is_met_reckoned, is_point_reckoned, is_whole,
    points_of_width, serves_reckoned, shown_reckoned, tops_reckoned,
)

SMALL = [(1, 0), (2, 0), (1, 1), (2, 1), (1, 2), (3, 1), (2, 3)]


def reach(kind, divisor):
    """The greatest rest of a point."""
    return kind[0] * kind[1] * divisor // (kind[0] - 1)


class TestIsPoint(unittest.TestCase):
    def test_all_small_ones(self):
        for kind in ((2, 1), (4, 2), (4, 3), (8, 5)):
            for looks in ((1, 0), (2, 1), (1, 2), (3, 0)):
                for wide in range(-2, 5):
                    for divisor in range(-2, 18):
                        for rest in range(-70, 71):
                            expected = wide >= 1 and is_point_reckoned(kind, looks, (wide, divisor, rest))
                            told = is_point(kind, looks, (wide, divisor, rest))
                            self.assertIs(told, expected, (kind, looks, wide, divisor, rest))

    def test_wide_no_less_than_tops(self):
        for kind in KINDS:
            for tops in range(1, 11):
                self.assertIs(is_point(kind, (tops, 0), (tops, 2 ** (tops - 1), 0)), True)
                self.assertIs(is_point(kind, (tops, 0), (tops, 2 ** tops - 1, 0)), True)
                self.assertIs(is_point(kind, (tops, 0), (tops - 1, 2 ** (tops - 1) - 1, 0)), False)

    def test_wide_no_less_than_parts(self):
        for kind in KINDS:
            for parts in range(2, 11):
                self.assertIs(is_point(kind, (1, parts), (parts, 2 ** parts - 1, 0)), True)
                self.assertIs(is_point(kind, (1, parts), (parts - 1, 2 ** (parts - 1) - 1, 0)), False)

    def test_divisors_of_fewer_and_of_more_bits(self):
        for wide in (1, 2, 5, 60, 199):
            for kind in KINDS:
                self.assertIs(is_point(kind, (1, 0), (wide, 2 ** (wide - 1), 1)), True)
                self.assertIs(is_point(kind, (1, 0), (wide, 2 ** wide - 1, 1)), True)
                self.assertIs(is_point(kind, (1, 0), (wide, 2 ** (wide - 1) - 1, 0)), False)
                self.assertIs(is_point(kind, (1, 0), (wide, 2 ** wide, 0)), False)

    def test_rests_at_the_bound_on_both_sides(self):
        for kind in KINDS:
            base, most = kind
            for divisor in (8, 9, 10, 11, 12, 13, 14, 15, 3 ** 90, 15 * 10 ** 57):
                point = (divisor.bit_length(), divisor, reach(kind, divisor))
                for sign in (1, -1):
                    rest = sign * reach(kind, divisor)
                    self.assertIs(is_point(kind, (2, 2), point[:2] + (rest,)), True)
                    self.assertIs(is_point(kind, (2, 2), point[:2] + (rest + sign,)), False)
            # Met exactly: a divisor that base - 1 divides.
            divisor = 105 * 2 ** 30
            rest = base * most * divisor // (base - 1)
            self.assertEqual((base - 1) * rest, base * most * divisor)
            self.assertIs(is_point(kind, (2, 2), (37, divisor, rest)), True)
            self.assertIs(is_point(kind, (2, 2), (37, divisor, -rest)), True)

    def test_divisors_and_widths_not_above_0(self):
        far = 10 ** 59
        for kind in KINDS:
            for wide in (0, -1, 1, 3, 4, 200, -far, far):
                for divisor in (0, -1, -4, -7, -far):
                    for rest in (0, 1, -1, far):
                        self.assertIs(is_point(kind, (1, 0), (wide, divisor, rest)), False)
            for wide in (0, -1, -3, -far, far):
                for divisor in (1, 4, 7, far):
                    self.assertIs(is_point(kind, (1, 0), (wide, divisor, 0)), False)


class TestCellsOf(unittest.TestCase):
    def test_all_points_of_small_widths(self):
        for kind in ((2, 1), (4, 2), (8, 7)):
            for looks in SMALL:
                for wide in range(max(looks), max(looks) + 2):
                    for point in points_of_width(kind, wide):
                        for sight in (1, 2):
                            told = cells_of(kind, looks, sight, point)
                            self.assertEqual(told, shown_reckoned(looks, sight, point))

    def test_at_multiples_of_what_is_looked_at_and_beside_them(self):
        kind, looks, wide = (8, 5), (3, 2), 40
        unit = 2 ** 38
        divisor = 7 * 2 ** 37
        for look in (-19, -2, -1, 0, 1, 2, 19):
            for more, shown in ((0, look), (1, look), (unit - 1, look), (-1, look - 1)):
                point = (wide, divisor, look * unit + more)
                self.assertTrue(is_point(kind, looks, point))
                self.assertEqual(cells_of(kind, looks, 1, point), [(7, shown)])
                self.assertEqual(cells_of(kind, looks, 2, point), [(7, shown), (7, shown - 1)])

    def test_at_the_ends_of_the_tops(self):
        for top in (4, 5, 6, 7):
            for divisor in (top * 2 ** 37, (top + 1) * 2 ** 37 - 1):
                self.assertEqual(cells_of((8, 5), (3, 2), 1, (40, divisor, 0)), [(top, 0)])

    def test_cells_are_within_the_bounds(self):
        for kind in KINDS:
            for looks in SMALL + [(10, 10)]:
                half = half_reckoned(kind, looks)
                for divisor in (2 ** 63, 2 ** 64 - 1):
                    for rest in (reach(kind, divisor), -reach(kind, divisor)):
                        for top, look in cells_of(kind, looks, 2, (64, divisor, rest)):
                            self.assertIn(top, tops_reckoned(looks))
                            self.assertTrue(-half <= look <= half - 1)

    def test_a_new_list_of_tuples_each_time(self):
        for sight in (1, 2):
            point = (6, 33, -17)
            first = cells_of((4, 2), (3, 2), sight, point)
            kept = list(first)
            self.assertIsInstance(first, list)
            self.assertEqual(len(first), sight)
            for cell in first:
                self.assertIsInstance(cell, tuple)
                self.assertTrue(is_whole(cell[0]) and is_whole(cell[1]) and len(cell) == 2)
            second = cells_of((4, 2), (3, 2), sight, point)
            self.assertIsNot(first, second)
            first.append((1, 1))
            first[0] = None
            self.assertEqual(second, kept)
            self.assertEqual(cells_of((4, 2), (3, 2), sight, point), kept)


class TestServes(unittest.TestCase):
    def test_at_both_bounds_and_one_beyond(self):
        for kind in KINDS:
            base, most = kind
            for divisor in (105 * 2 ** 30, 1, 9, 14, 10 ** 58 + 7):
                wide = divisor.bit_length()
                slack = most * divisor // (base - 1)
                for figure in figures_of(kind):
                    middle = figure * divisor
                    for rest, served in (
                        (middle, True), (middle + slack, True), (middle - slack, True),
                        (middle + slack + 1, False), (middle - slack - 1, False),
                    ):
                        self.assertIs(serves(kind, figure, (wide, divisor, rest)), served)

    def test_each_point_is_served_without_gaps(self):
        for kind in KINDS:
            for wide in range(1, {2: 7, 4: 6, 8: 5, 16: 4}[kind[0]]):
                for point in points_of_width(kind, wide):
                    serving = [figure for figure in figures_of(kind) if serves(kind, figure, point)]
                    expected = [figure for figure in figures_of(kind) if serves_reckoned(kind, figure, point)]
                    self.assertEqual(serving, expected)
                    self.assertTrue(serving, (kind, point))
                    self.assertEqual(serving, list(range(serving[0], serving[-1] + 1)))

    def test_great_points_are_served(self):
        chance = random.Random(12)
        for kind in KINDS:
            for turn in range(40):
                divisor = chance.randrange(1, 10 ** 60)
                rest = chance.randrange(-reach(kind, divisor), reach(kind, divisor) + 1)
                point = (divisor.bit_length(), divisor, rest)
                self.assertTrue(any(serves(kind, figure, point) for figure in figures_of(kind)))


class TestSpoilers(unittest.TestCase):
    def assert_shows(self, kind, looks, sight, cell, point):
        self.assertIsInstance(point, tuple)
        self.assertEqual(len(point), 3)
        self.assertTrue(all(is_whole(number) for number in point))
        self.assertIs(is_point(kind, looks, point), True, (kind, looks, sight, cell, point))
        self.assertTrue(is_point_reckoned(kind, looks, point))
        self.assertIn(cell, cells_of(kind, looks, sight, point), (kind, looks, sight, cell, point))
        self.assertIn(cell, shown_reckoned(looks, sight, point))

    def assert_spoilers(self, kind, looks, sight, cell):
        good = good_figures(kind, looks, sight, cell)
        for figure in figures_of(kind):
            told = spoiler(kind, looks, sight, cell, figure)
            self.assertEqual(spoiler(kind, looks, sight, cell, figure), told)
            if figure in good:
                self.assertIsNone(told, (kind, looks, sight, cell, figure))
            else:
                self.assert_shows(kind, looks, sight, cell, told)
                self.assertIs(serves(kind, figure, told), False)
                self.assertFalse(serves_reckoned(kind, figure, told))

    def assert_two_points(self, kind, looks, sight, cell):
        told = two_points(kind, looks, sight, cell)
        self.assertEqual(two_points(kind, looks, sight, cell), told)
        if good_figures(kind, looks, sight, cell):
            self.assertIsNone(told, (kind, looks, sight, cell))
            return
        self.assertIsInstance(told, tuple)
        one, other = told
        self.assertEqual(one[0], other[0])
        for point in told:
            self.assert_shows(kind, looks, sight, cell, point)
        for figure in figures_of(kind):
            self.assertFalse(serves(kind, figure, one) and serves(kind, figure, other))
            self.assertFalse(serves_reckoned(kind, figure, one) and serves_reckoned(kind, figure, other))

    def test_every_figure_and_cell_of_small_looks(self):
        for kind in KINDS:
            for looks in SMALL:
                for sight in (1, 2):
                    for cell in cells_reckoned(kind, looks):
                        self.assert_spoilers(kind, looks, sight, cell)
                        self.assert_two_points(kind, looks, sight, cell)

    def test_some_cells_of_any_looks(self):
        chance = random.Random(13)
        for kind in KINDS:
            for tops in range(1, 11):
                for parts in range(11):
                    looks = (tops, parts)
                    half = half_reckoned(kind, looks)
                    cell = (chance.choice(tops_reckoned(looks)), chance.randrange(-half, half))
                    sight = chance.choice((1, 2))
                    self.assert_spoilers(kind, looks, sight, cell)
                    self.assert_two_points(kind, looks, sight, cell)

    def test_at_the_edge_of_those_that_are_met(self):
        for kind in KINDS:
            for looks in SMALL + [(6, 4), (10, 10), (10, 0), (1, 10)]:
                half = half_reckoned(kind, looks)
                tops = tops_reckoned(looks)
                for top in (tops[0], tops[-1]):
                    for sight in (1, 2):
                        last = max(look for look in range(half) if is_met_reckoned(kind, looks, sight, (top, look)))
                        for look in (last, last + 1, -last - sight, -last - sight - 1):
                            if -half <= look < half:
                                self.assert_spoilers(kind, looks, sight, (top, look))
                                self.assert_two_points(kind, looks, sight, (top, look))

    def test_a_cell_that_is_not_met_has_none(self):
        for kind in KINDS:
            half = half_reckoned(kind, (2, 1))
            for look in (-half, half - 1):
                for sight in (1, 2):
                    self.assertIs(is_met(kind, (2, 1), sight, (2, look)), False)
                    self.assertIsNone(two_points(kind, (2, 1), sight, (2, look)))
                    for figure in figures_of(kind):
                        self.assertIsNone(spoiler(kind, (2, 1), sight, (2, look), figure))

    def test_both_kinds_of_cells_are_there(self):
        # So that the tests above have looked at cells with and without a good figure.
        bare = [cell for cell in cells_reckoned((4, 2), (2, 1)) if not good_reckoned((4, 2), (2, 1), 1, cell)]
        self.assertEqual(bare, [(2, -2), (2, -1), (2, 0), (2, 1), (3, -3), (3, 2)])


if __name__ == "__main__":
    unittest.main()
