import random
import subprocess
import sys
import unittest
from itertools import product
from pathlib import Path

from slackfigures.errors import NoFigure, NoMore
from slackfigures.summers import Summer
from tests.common import KINDS, NO_NUMBERS, figures_of, is_whole

TOP = Path(__file__).resolve().parent.parent


def worth_reckoned(kind, row):
    return sum(figure * kind[0] ** place for place, figure in enumerate(reversed(row)))


class TestSummer(unittest.TestCase):
    def assert_sum(self, kind, one, other):
        """Tells both rows to a Summer, and checks all that it tells."""
        summer = Summer(kind)
        told = []
        self.assertEqual(summer.told(), [])
        for many, (left, right) in enumerate(zip(one, other), 1):
            more = summer.put(left, right)
            self.assertIs(type(more), list)
            told += more
            self.assertEqual(summer.told(), told)
            self.assertGreaterEqual(len(told), many - 1)
        more = summer.end()
        self.assertIs(type(more), list)
        told += more
        self.assertEqual(summer.told(), told)
        self.assertEqual(len(told), len(one) + 1)
        self.assertTrue(all(is_whole(figure) and figure in figures_of(kind) for figure in told))
        self.assertEqual(worth_reckoned(kind, told), worth_reckoned(kind, one) + worth_reckoned(kind, other))
        return told

    def test_no_pairs(self):
        for kind in KINDS:
            self.assertEqual(self.assert_sum(kind, [], []), [0])

    def test_one_pair(self):
        for kind in KINDS:
            for one in figures_of(kind):
                for other in figures_of(kind):
                    self.assert_sum(kind, [one], [other])

    def test_all_rows_of_a_few_pairs(self):
        # The other row is what is left of any sum of both figures.
        for kind, many in (((2, 1), 6), ((4, 2), 4), ((4, 3), 3), ((8, 4), 2), ((16, 8), 2), ((16, 15), 2)):
            sums = range(-2 * kind[1], 2 * kind[1] + 1)
            for row in product(sums, repeat=many):
                one = [max(-kind[1], min(kind[1], both)) for both in row]
                self.assert_sum(kind, one, [both - left for both, left in zip(row, one)])

    def test_any_figures(self):
        chance = random.Random(61)
        for kind in KINDS:
            figures = list(figures_of(kind))
            for many in (2, 3, 5, 20, 250, 250):
                self.assert_sum(kind, chance.choices(figures, k=many), chance.choices(figures, k=many))
            edges = [-kind[1], 1 - kind[1], 0, kind[1] - 1, kind[1]]
            for turn in range(10):
                self.assert_sum(kind, chance.choices(edges, k=40), chance.choices(edges, k=40))

    def test_the_greatest_and_the_least(self):
        for kind in KINDS:
            most = kind[1]
            for many in (1, 2, 3, 250):
                for one in (most, -most):
                    for other in (most, -most, 0, 1, -1):
                        self.assert_sum(kind, [one] * many, [other] * many)

    def test_opposite_signs(self):
        chance = random.Random(62)
        for kind in KINDS:
            for many in (1, 2, 250):
                row = chance.choices(list(figures_of(kind)), k=many)
                self.assert_sum(kind, row, [-figure for figure in row])
                swing = [kind[1] if at % 2 else -kind[1] for at in range(many)]
                self.assert_sum(kind, swing, swing)

    def test_one_row_and_nought(self):
        chance = random.Random(63)
        for kind in KINDS:
            row = chance.choices(list(figures_of(kind)), k=60)
            self.assert_sum(kind, row, [0] * 60)
            self.assert_sum(kind, [0] * 60, row)

    def test_what_is_told_is_the_askers_own(self):
        summer = Summer((4, 2))
        for turn in range(5):
            told = summer.told()
            more = summer.put(1, 2)
            self.assertEqual(len(told), max(0, turn - 1))
            copy = summer.told()
            more.append(7)
            told.append(9)
            self.assertEqual(summer.told(), copy)
            copy.append(9)
        last = summer.end()
        copy = summer.told()
        last.clear()
        self.assertEqual(summer.told(), copy)
        self.assertEqual(worth_reckoned((4, 2), copy), 3 * 341)

    def refused(self, refusal, asked, *things):
        with self.assertRaises(refusal) as caught:
            asked(*things)
        self.assertIs(type(caught.exception), refusal)

    def test_things_that_are_no_figures(self):
        for kind in ((2, 1), (4, 2), (8, 7), (16, 12)):
            most = kind[1]
            wrong = NO_NUMBERS + [None, most + 1, -most - 1, kind[0], 10 ** 59, -(10 ** 59), "1", (1,), [1], b"1"]
            for ahead in (0, 1, 3):
                summer, twin = Summer(kind), Summer(kind)
                for turn in range(ahead):
                    self.assertEqual(summer.put(most, 1), twin.put(most, 1))
                for thing in wrong:
                    told = summer.told()
                    self.refused(NoFigure, summer.put, thing, 0)
                    self.refused(NoFigure, summer.put, 0, thing)
                    self.refused(NoFigure, summer.put, thing, thing)
                    self.assertEqual(summer.told(), told)
                for turn in range(4):
                    self.assertEqual(summer.put(-1, most), twin.put(-1, most))
                self.assertEqual(summer.end(), twin.end())
                self.assertEqual(summer.told(), twin.told())

    def test_behind_the_end(self):
        for kind in KINDS:
            for many in (0, 1, 2, 7):
                summer = Summer(kind)
                for turn in range(many):
                    summer.put(1, -1)
                summer.end()
                told = summer.told()
                for turn in range(2):
                    self.refused(NoMore, summer.put, 0, 0)
                    self.refused(NoMore, summer.end)
                    for thing in (None, True, "x", kind[0], [], ()):
                        self.refused(NoMore, summer.put, thing, 0)
                        self.refused(NoMore, summer.put, 0, thing)
                    self.assertEqual(summer.told(), told)

    def test_two_side_by_side(self):
        chance = random.Random(64)
        for kind, other_kind in (((4, 2), (4, 2)), ((2, 1), (16, 9))):
            rows = [[chance.choices(list(figures_of(each)), k=50) for row in range(2)] for each in (kind, other_kind)]
            one, other = Summer(kind), Summer(other_kind)
            for at in range(50):
                one.put(rows[0][0][at], rows[0][1][at])
                other.put(rows[1][0][at], rows[1][1][at])
            one.end()
            self.assertEqual(other.told(), other.told())
            other.end()
            self.assertEqual(one.told(), self.assert_sum(kind, *rows[0]))
            self.assertEqual(other.told(), self.assert_sum(other_kind, *rows[1]))

    def test_summers_above_summers(self):
        # Four rows: two Summers tell figures as they come to a third one.
        chance = random.Random(65)
        for kind in KINDS:
            rows = [chance.choices(list(figures_of(kind)), k=80) for row in range(4)]
            one, other, both = Summer(kind), Summer(kind), Summer(kind)
            waiting, told = ([], []), []
            for at in range(81):
                waiting[0].extend(one.put(rows[0][at], rows[1][at]) if at < 80 else one.end())
                waiting[1].extend(other.put(rows[2][at], rows[3][at]) if at < 80 else other.end())
                while waiting[0] and waiting[1]:
                    told.extend(both.put(waiting[0].pop(0), waiting[1].pop(0)))
                self.assertGreaterEqual(len(told), min(at, 80) - 1)
            told.extend(both.end())
            self.assertEqual(len(told), 82)
            self.assertEqual(worth_reckoned(kind, told), sum(worth_reckoned(kind, row) for row in rows))

    def test_within_a_moment(self):
        # In a process of its own, so that an answer that never comes fails, too.
        script = (
            "from slackfigures.summers import Summer\n"
            "for turn in range(200):\n"
            "    summer = Summer((16, 8))\n"
            "    for pair in range(250):\n"
            "        summer.put(8, -turn % 8)\n"
            "    summer.end()\n"
        )
        subprocess.run([sys.executable, "-c", script], cwd=TOP, check=True, timeout=60)


if __name__ == "__main__":
    unittest.main()
