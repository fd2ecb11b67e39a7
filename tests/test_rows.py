import itertools
import subprocess
import sys
import unittest
from collections import Counter
from pathlib import Path

from slackfigures.rows import how_many, worth
from tests.common import KINDS, greatest, is_whole

TOP = Path(__file__).resolve().parent.parent


def worth_by_places(kind, row):
    return sum(figure * kind[0] ** place for place, figure in enumerate(reversed(row)))


def counted_from_the_front(kind, count, number, known):
    """As how_many, but by the leading figure, leaving out what can't be reached."""
    if abs(number) > greatest(kind, count):
        return 0
    if count == 0:
        return 1
    if (count, number) not in known:
        base, most = kind
        known[count, number] = sum(
            counted_from_the_front(kind, count - 1, number - figure * base ** (count - 1), known)
            for figure in range(-most, most + 1)
        )
    return known[count, number]


class TestWorth(unittest.TestCase):
    def test_no_figures(self):
        for kind in KINDS:
            self.assertEqual(worth(kind, []), 0)

    def test_one_figure(self):
        for kind in KINDS:
            for figure in range(-kind[1], kind[1] + 1):
                self.assertEqual(worth(kind, [figure]), figure)

    def test_written_out(self):
        self.assertEqual(worth((4, 2), [1, -2, 0, 2]), 34)
        self.assertEqual(worth((4, 2), [-1, 2]), -2)
        self.assertEqual(worth((2, 1), [1, 0, -1, 1]), 7)
        self.assertEqual(worth((8, 5), [5, -5]), 35)
        self.assertEqual(worth((16, 15), [-15, -15]), -255)
        self.assertEqual(worth((16, 8), [0, 0, -8]), -8)

    def test_the_leading_figure_stands_first(self):
        for kind in KINDS:
            self.assertEqual(worth(kind, [1, 0, 0]), kind[0] ** 2)
            self.assertEqual(worth(kind, [0, 0, -1]), -1)

    def test_base_times_the_row_without_its_last_figure(self):
        for kind in KINDS:
            base, most = kind
            row = [(place * 7 + place * place) % (2 * most + 1) - most for place in range(40)]
            for length in range(1, 41):
                shorter = worth(kind, row[:length - 1])
                self.assertEqual(worth(kind, row[:length]), base * shorter + row[length - 1])

    def test_all_short_rows(self):
        for kind in KINDS:
            figures = range(-kind[1], kind[1] + 1)
            for length in range(3):
                for row in itertools.product(figures, repeat=length):
                    self.assertEqual(worth(kind, list(row)), worth_by_places(kind, row))

    def test_250_figures(self):
        for kind in KINDS:
            most = kind[1]
            self.assertEqual(worth(kind, [most] * 250), greatest(kind, 250))
            self.assertEqual(worth(kind, [-most] * 250), -greatest(kind, 250))
            row = [(-1) ** place * (place % (most + 1)) for place in range(250)]
            self.assertEqual(worth(kind, row), worth_by_places(kind, row))

    def test_two_rows_of_one_worth(self):
        for kind in KINDS:
            base, most = kind
            self.assertEqual(worth(kind, [0, 1]), worth(kind, [1, 1 - base]))
            self.assertEqual(worth(kind, [0, most]), worth(kind, [1, most - base]))
            self.assertEqual(worth(kind, [0, -most]), worth(kind, [-1, base - most]))
            self.assertEqual(worth(kind, [0, 0, 1]), worth(kind, [1]))

    def test_the_row_stays_as_it_was(self):
        row = [1, -2, 0, 2]
        first = worth((4, 2), row)
        self.assertEqual(row, [1, -2, 0, 2])
        self.assertEqual(worth((4, 2), row), first)

    def test_the_row_is_not_kept(self):
        row = [1, 1]
        self.assertEqual(worth((4, 2), row), 5)
        row[0] = -1
        row.append(2)
        self.assertEqual(worth((4, 2), row), -10)
        self.assertEqual(worth((4, 2), [1, 1]), 5)

    def test_a_whole_number(self):
        for kind in KINDS:
            for row in ([], [0], [1], [-1], [kind[1]] * 250):
                self.assertTrue(is_whole(worth(kind, row)))


class TestHowMany(unittest.TestCase):
    def test_count_0(self):
        for kind in KINDS:
            self.assertEqual(how_many(kind, 0, 0), 1)
            for number in (1, -1, 2, -2, kind[0], -kind[0], kind[1], 10 ** 59, -(10 ** 59)):
                self.assertEqual(how_many(kind, 0, number), 0)

    def test_count_1(self):
        for kind in KINDS:
            for number in range(-40, 41):
                self.assertEqual(how_many(kind, 1, number), 1 if abs(number) <= kind[1] else 0)

    def test_all_rows_counted_one_by_one(self):
        for kind in KINDS:
            base, most = kind
            count = 0
            while (2 * most + 1) ** count <= 6000:
                rows = itertools.product(range(-most, most + 1), repeat=count)
                counted = Counter(worth_by_places(kind, row) for row in rows)
                end = greatest(kind, count) + 2 * base + 1
                for number in range(-end, end + 1):
                    self.assertEqual(how_many(kind, count, number), counted[number], (kind, count, number))
                count += 1
            self.assertGreaterEqual(count, 3)

    def test_the_other_sign(self):
        for kind in KINDS:
            for count in (1, 2, 5, 31, 60):
                for number in (0, 1, kind[0] - 1, kind[0] ** count // 3, kind[0] ** count // 7, 10 ** 59 + 7):
                    self.assertEqual(how_many(kind, count, number), how_many(kind, count, -number))

    def test_by_the_leading_figure(self):
        for kind in KINDS:
            base, most = kind
            for count in (6, 17, 43, 60):
                end = greatest(kind, count)
                known = {}
                tried = (0, 1, base // 2, base - 1, base ** count // 3, base ** count // 5 + 1, end // 2, end - base,
                         end - 1, end, end + 1, 10 ** 59, 10 ** 60 - 1, 123456789 ** 7 % 10 ** 60)
                for number in tried:
                    for signed in (number, -number):
                        expected = counted_from_the_front(kind, count, signed, known)
                        self.assertEqual(how_many(kind, count, signed), expected, (kind, count, signed))

    def test_the_ends_have_one_row_each(self):
        for kind in KINDS:
            for count in range(61):
                end = greatest(kind, count)
                self.assertEqual(how_many(kind, count, end), 1)
                self.assertEqual(how_many(kind, count, -end), 1)
                self.assertEqual(how_many(kind, count, end + 1), 0)
                self.assertEqual(how_many(kind, count, -end - 1), 0)

    def test_sum_over_the_last_figures(self):
        for kind in KINDS:
            base, most = kind
            for count in (1, 2, 3, 10, 59, 60):
                for number in (0, 1, -1, base, most, -most, 3 ** count, -(5 ** count), base ** count // 3, 10 ** 59 + 1):
                    parts = [
                        how_many(kind, count - 1, (number - figure) // base)
                        for figure in range(-most, most + 1) if (number - figure) % base == 0
                    ]
                    self.assertEqual(how_many(kind, count, number), sum(parts), (kind, count, number))

    def test_written_out(self):
        # 1 as [1], [1, -1], [1, -1, -1] and so on, with noughts ahead.
        self.assertEqual(how_many((2, 1), 60, 1), 60)
        # 2 in base 4: [0, 2] and [1, -2].
        self.assertEqual(how_many((4, 2), 2, 2), 2)
        self.assertEqual(how_many((4, 2), 2, 1), 1)
        self.assertEqual(how_many((4, 3), 2, 1), 2)
        # The only figure that ends a row worth 0 is 0 itself.
        for kind in KINDS:
            self.assertEqual(how_many(kind, 60, 0), 1)

    def test_great_counts_are_answered_within_a_moment(self):
        # In a process of its own, so that an answer that never comes fails, too.
        script = (
            "from slackfigures.rows import how_many\n"
            "for base in (2, 4, 8, 16):\n"
            "    for most in range(base // 2, base):\n"
            "        for number in (0, 1, base ** 60 // 3, base ** 59 // 5, 10 ** 60 - 1, 1 - 10 ** 60):\n"
            "            how_many((base, most), 60, number)\n"
        )
        subprocess.run([sys.executable, "-c", script], cwd=TOP, check=True, timeout=30)

    def test_the_same_is_answered_the_same(self):
        first = how_many((4, 3), 40, 10 ** 20)
        how_many((4, 2), 40, 10 ** 20)
        how_many((4, 3), 41, 10 ** 20)
        self.assertEqual(how_many((4, 3), 40, 10 ** 20), first)
        self.assertGreater(first, 1)

    def test_a_whole_number(self):
        for kind in KINDS:
            for count, number in ((0, 0), (0, 5), (1, 0), (60, 10 ** 59), (60, -7)):
                self.assertTrue(is_whole(how_many(kind, count, number)))


if __name__ == "__main__":
    unittest.main()
