import random
import subprocess
import sys
import unittest
from fractions import Fraction
from functools import cache
from math import isqrt
from pathlib import Path

from slackfigures.errors import NoTable, Spoilt
from slackfigures.roots import first_root_fault, root, root_good, root_steps, root_table
from slackfigures.tables import is_table
from tests.common import (
    BITS, KINDS, cell_places, cells_reckoned, copy_reckoned, figures_of, filled_table, half_reckoned, is_whole,
    tops_reckoned, with_entry,
)

TOP = Path(__file__).resolve().parent.parent

# Of these there is a plain root table.
SERVED = [
    ((2, 1), (1, 0), 2), ((2, 1), (1, 1), 2), ((2, 1), (2, 0), 3), ((4, 2), (4, 4), 7), ((4, 2), (5, 4), 6),
    ((4, 3), (3, 3), 6), ((4, 3), (4, 2), 5), ((8, 5), (5, 4), 8), ((8, 7), (4, 4), 8), ((16, 12), (6, 3), 10),
    ((16, 15), (6, 2), 10),
]


def least_fresh(kind, looks):
    return max(2, BITS[kind[0]] + looks[1] - 2)


def kept(corners, told):
    """The corners of what is left of a shape with corners where told(x, y), a sum of multiples of both, is from 0 on."""
    left = []
    for (x, y), (u, v) in zip(corners, corners[1:] + corners[:1]):
        here, there = told(x, y), told(u, v)
        if here >= 0:
            left.append((x, y))
        if here * there < 0:
            share = here / (here - there)
            left.append((x + share * (u - x), y + share * (v - y)))
    return left


def corners_at(kind, looks, fresh, cell):
    """The corners of what lies at the cell, none where nothing does."""
    (base, most), (tops, parts), (top, look) = kind, looks, cell
    c = Fraction(base * most, base - 1)
    z = Fraction(1, base * 2 ** (fresh + 1))
    aside = Fraction(1, 2 ** fresh)
    left, right = Fraction(top, 2 ** tops) - aside, Fraction(top + 1, 2 ** tops) + aside
    low, high = Fraction(look, 2 ** parts), Fraction(look + 1, 2 ** parts)
    corners = [(left, low), (right, low), (right, high), (left, high)]
    corners = kept(corners, lambda x, y: y + c * x)
    return kept(corners, lambda x, y: c * x + c * c * z - y)


def root_good_reckoned(kind, looks, fresh, cell):
    """The figures that are good at all corners, None where nothing lies at the cell."""
    base, most = kind
    h = Fraction(most, base - 1)
    z = Fraction(1, base * 2 ** (fresh + 1))
    corners = corners_at(kind, looks, fresh, cell)
    if not corners:
        return None
    return [
        q for q in figures_of(kind)
        if all(
            (q == most or y <= (q + h) * x) and (q == -most or y >= (q - h) * x + (q - h) * (q - h) * z)
            for x, y in corners
        )
    ]


@cache
def known_cells(kind, looks, fresh):
    return {cell: root_good_reckoned(kind, looks, fresh, cell) for cell in cells_reckoned(kind, looks)}


def too_far(kind, number, total, weight):
    """Whether the square root of the number is farther than weight * most / (base - 1) from the sum."""
    slack = Fraction(weight * kind[1], kind[0] - 1)
    above, below = total + slack, total - slack
    return above < 0 or number > above * above or (below > 0 and number < below * below)


def walked(kind, looks, fresh, table, number):
    """("told", figures), with the sums beside them, or ("spoilt", step)."""
    base, (tops, parts) = kind[0], looks
    wide = len(bin(isqrt(number))) - 2 if number else 0
    if wide < tops or wide < fresh or parts > wide + 1:
        return "told", []
    left = (wide - fresh) // BITS[base]
    unit = base ** left
    low = isqrt(number) // unit * unit
    total = low if isqrt(number) - low < low + unit - isqrt(number) else low + unit
    top = min(total // 2 ** (wide - tops), 2 ** tops - 1)
    figures = []
    for step in range(left):
        weight = base ** (left - 1 - step)
        look = (number - total * total) // (weight * 2 ** (wide + 1 - parts))
        line, place = cell_places(kind, looks, (top, look))
        assert 0 <= place
        figure = table[line][place]
        if figure is None:
            return "spoilt", step
        total += figure * weight
        if too_far(kind, number, total, weight):
            return "spoilt", step
        figures.append(figure)
    return "told", figures


def told_steps(kind, looks, fresh, table, number):
    try:
        return "told", root_steps(kind, looks, fresh, table, number)
    except Spoilt as refused:
        return "spoilt", refused.step


def some_numbers(chance):
    numbers = list(range(300)) + [10 ** 60 - 1, 10 ** 60, 4 ** 99, 4 ** 99 - 1, 4 ** 99 + 1]
    for figures in range(2, 31):
        near = chance.randrange(10 ** (figures - 1), 10 ** figures)
        numbers += [near * near, near * near - 1, near * near + 1, near * near + near, near * near + near + 1]
        numbers.append(chance.randrange(10 ** (2 * figures)))
    # Roots whose first sum is a power of two, or just between two multiples.
    for bits in range(3, 100, 7):
        for near in (2 ** bits - 1, 2 ** bits, 2 ** bits + 1, 2 ** bits + 2 ** (bits - 3), 3 * 2 ** bits // 2 - 1):
            numbers += [near * near - 1, near * near, near * near + 1, near * near + 2 * near]
    return numbers


class TestRootGood(unittest.TestCase):
    def check(self, kind, looks, fresh, cell):
        told = root_good(kind, looks, fresh, cell)
        expected = root_good_reckoned(kind, looks, fresh, cell)
        self.assertEqual(told, list(figures_of(kind)) if expected is None else expected)
        self.assertIs(type(told), list)
        self.assertTrue(all(is_whole(figure) for figure in told))

    def test_every_cell_of_small_looks(self):
        for kind in KINDS:
            for looks in ((1, 0), (2, 1)):
                for fresh in {least_fresh(kind, looks), least_fresh(kind, looks) + 1, 60}:
                    for cell in cells_reckoned(kind, looks):
                        self.check(kind, looks, fresh, cell)

    def test_some_cells_of_greater_looks(self):
        chance = random.Random(21)
        for kind in KINDS:
            for looks in ((1, 4), (3, 2), (4, 4), (6, 3), (10, 0), (10, 10)):
                least = least_fresh(kind, looks)
                for fresh in {least, least + 1, least + 3, chance.randrange(least, 61), 60}:
                    half = half_reckoned(kind, looks)
                    for look in [-half, -half + 1, -1, 0, 1, half - 1] + chance.sample(range(-half, half), 6):
                        self.check(kind, looks, fresh, (chance.choice(tops_reckoned(looks)), look))

    def test_from_the_least_fresh_on_to_sixty(self):
        for kind, looks in (((2, 1), (2, 1)), ((4, 2), (4, 4)), ((16, 9), (3, 3))):
            for fresh in range(least_fresh(kind, looks), 61):
                for cell in random.Random(fresh).sample(cells_reckoned(kind, looks), 6):
                    self.check(kind, looks, fresh, cell)

    def test_beside_the_edges_of_what_lies_there(self):
        for kind in KINDS:
            for looks in ((1, 3), (4, 3), (5, 1)):
                for fresh in (least_fresh(kind, looks), least_fresh(kind, looks) + 2):
                    for top in (tops_reckoned(looks)[0], tops_reckoned(looks)[-1]):
                        half = half_reckoned(kind, looks)
                        edge = kind[0] * kind[1] * (top + 1) * 2 ** looks[1] // ((kind[0] - 1) * 2 ** looks[0])
                        for look in range(edge - 2, edge + 8):
                            for sided in (look, -look):
                                if -half <= sided < half:
                                    self.check(kind, looks, fresh, (top, sided))

    def test_where_nothing_lies_all_are_good(self):
        kind, looks = (4, 2), (4, 4)
        self.assertEqual(corners_at(kind, looks, 7, (8, 40)), [])
        self.assertEqual(root_good(kind, looks, 7, (8, 40)), [-2, -1, 0, 1, 2])
        self.assertEqual(root_good(kind, looks, 7, (8, -66)), [-2, -1, 0, 1, 2])

    def test_at_most_one_side_is_free(self):
        # The greatest rests that lie at the top are more than most could mend, and yet it is good for them.
        for kind, looks, fresh in SERVED:
            known = known_cells(kind, looks, fresh)
            asked = [cell for cell in known if known[cell] is not None]
            self.assertEqual(root_good(kind, looks, fresh, max(asked))[-1], kind[1])
            top = max(asked)[0]
            first = min(cell for cell in asked if cell[0] == top)
            self.assertEqual(root_good(kind, looks, fresh, first)[0], -kind[1])

    def test_a_new_list_each_time(self):
        for cell in ((8, 3), (8, 40)):
            first = root_good((4, 2), (4, 4), 7, cell)
            copy = list(first)
            first.append(9)
            first[0] = None
            self.assertEqual(root_good((4, 2), (4, 4), 7, cell), copy)


class TestRootTables(unittest.TestCase):
    def assert_table(self, kind, looks, fresh):
        known = known_cells(kind, looks, fresh)
        bare = [cell for cell in known if known[cell] == []]
        if bare:
            with self.assertRaises(NoTable) as caught:
                root_table(kind, looks, fresh)
            self.assertIs(type(caught.exception), NoTable)
            self.assertEqual((caught.exception.top, caught.exception.look), min(bare))
            return False
        told = root_table(kind, looks, fresh)
        self.assertTrue(is_table(kind, looks, told))
        nearest = {cell: None if known[cell] is None else min(known[cell], key=abs) for cell in known}
        self.assertEqual(told, filled_table(kind, looks, lambda cell: nearest[cell]))
        self.assertIsNone(first_root_fault(kind, looks, fresh, told))
        return True

    def test_where_there_is_one(self):
        for kind, looks, fresh in SERVED:
            self.assertTrue(self.assert_table(kind, looks, fresh))
            self.assertTrue(self.assert_table(kind, looks, fresh + 1))

    def test_small_looks_of_all_kinds(self):
        for kind in KINDS:
            for looks in ((1, 0), (2, 0), (1, 2), (3, 1)):
                for fresh in (least_fresh(kind, looks), least_fresh(kind, looks) + 3, 60):
                    self.assert_table(kind, looks, fresh)

    def test_looks_that_are_nearly_enough(self):
        for kind, looks, fresh in (((4, 2), (4, 4), 6), ((4, 3), (3, 3), 5), ((8, 7), (4, 4), 7), ((8, 6), (5, 2), 8)):
            self.assertFalse(self.assert_table(kind, looks, fresh))

    def assert_first(self, kind, looks, fresh, table, known):
        faults = []
        for cell in sorted(known):
            line, place = cell_places(kind, looks, cell)
            if known[cell] is not None and table[line][place] not in known[cell]:
                faults.append(cell)
        copy = copy_reckoned(table)
        told = first_root_fault(kind, looks, fresh, table)
        self.assertEqual(told, faults[0] if faults else None)
        self.assertTrue(told is None or type(told) is tuple)
        self.assertEqual(table, copy)

    def test_faults_of_changed_tables(self):
        chance = random.Random(22)
        for kind, looks, fresh in SERVED:
            known = known_cells(kind, looks, fresh)
            anything = list(figures_of(kind)) + [None]
            plain = root_table(kind, looks, fresh)
            for turn in range(25):
                table = copy_reckoned(plain)
                for cell in chance.sample(sorted(known), 1 + turn % 3):
                    line, place = cell_places(kind, looks, cell)
                    table[line][place] = chance.choice(anything)
                self.assert_first(kind, looks, fresh, table, known)
            for told in (lambda cell: None, lambda cell: 0, lambda cell: chance.choice(anything)):
                self.assert_first(kind, looks, fresh, filled_table(kind, looks, told), known)

    def test_every_entry_changed(self):
        for kind, looks, fresh in SERVED[:3]:
            known = known_cells(kind, looks, fresh)
            plain = root_table(kind, looks, fresh)
            for cell in known:
                for figure in list(figures_of(kind)) + [None]:
                    self.assert_first(kind, looks, fresh, with_entry(kind, looks, plain, cell, figure), known)

    def test_any_good_figures_are_let_by(self):
        chance = random.Random(23)
        for kind, looks, fresh in SERVED:
            known = known_cells(kind, looks, fresh)
            anything = list(figures_of(kind)) + [None]
            table = filled_table(
                kind, looks, lambda cell: chance.choice(anything if known[cell] is None else known[cell]),
            )
            self.assertIsNone(first_root_fault(kind, looks, fresh, table))

    def test_no_two_lists_are_one(self):
        one, other = root_table((4, 2), (4, 4), 7), root_table((4, 2), (4, 4), 7)
        self.assertEqual(one, other)
        lists = [one, other] + one + other
        self.assertEqual(len({id(held) for held in lists}), len(lists))


class TestRoot(unittest.TestCase):
    def assert_root(self, kind, looks, fresh, table, number):
        told = root(kind, looks, fresh, table, number)
        self.assertEqual(told, (isqrt(number), number - isqrt(number) ** 2))
        self.assertIs(type(told), tuple)
        self.assertTrue(all(is_whole(each) for each in told))
        steps = root_steps(kind, looks, fresh, table, number)
        self.assertIs(type(steps), list)
        self.assertEqual(("told", steps), walked(kind, looks, fresh, table, number))
        return steps

    def good_tables(self, kind, looks, fresh):
        chance = random.Random(f"{kind} {looks} {fresh}")
        anything = list(figures_of(kind)) + [None]
        known = known_cells(kind, looks, fresh)
        return [root_table(kind, looks, fresh)] + [
            filled_table(kind, looks, lambda cell: chance.choice(anything if known[cell] is None else known[cell]))
            for turn in range(2)
        ]

    def test_by_tables_let_by_never_refused(self):
        chance = random.Random(24)
        for kind, looks, fresh in SERVED:
            seen = 0
            for table in self.good_tables(kind, looks, fresh):
                copy = copy_reckoned(table)
                for number in some_numbers(chance):
                    seen = max(seen, len(self.assert_root(kind, looks, fresh, table, number)))
                self.assertEqual(table, copy)
            self.assertGreater(seen, 10)

    def test_the_first_ten_thousand(self):
        for kind, looks, fresh in (((2, 1), (1, 0), 2), ((4, 3), (4, 2), 5)):
            table = root_table(kind, looks, fresh)
            for number in range(10000):
                self.assert_root(kind, looks, fresh, table, number)

    def test_written_out(self):
        table = root_table((4, 2), (4, 4), 7)
        self.assertEqual(root((4, 2), (4, 4), 7, table, 0), (0, 0))
        self.assertEqual(root((4, 2), (4, 4), 7, table, 1), (1, 0))
        self.assertEqual(root((4, 2), (4, 4), 7, table, 99), (9, 18))
        # 1000 has ten bits: one figure behind the first sum, which is itself 1000.
        self.assertEqual(root_steps((4, 2), (4, 4), 7, table, 1000 * 1000), [0])
        self.assertEqual(root((4, 2), (4, 4), 7, table, 1000 * 1000 + 5), (1000, 5))
        # 1002 lies between 1000 and 1004: the greater one is taken, and two are too many.
        self.assertEqual(root_steps((4, 2), (4, 4), 7, table, 1002 * 1002), [-2])

    def test_taken_plainly(self):
        spoilt = filled_table((4, 2), (4, 4), lambda cell: None)
        for number in (0, 1, 2, 3, 4, 63 ** 2, 64 ** 2 - 1):
            # Of six bits at most, and fresh is 7.
            self.assertEqual(root_steps((4, 2), (4, 4), 7, spoilt, number), [])
            self.assertEqual(root((4, 2), (4, 4), 7, spoilt, number)[0], isqrt(number))
        # Seven bits and eight are enough, and leave nothing to look up.
        for number in (64 ** 2, 128 ** 2 - 1, 255 ** 2):
            self.assertEqual(root_steps((4, 2), (4, 4), 7, spoilt, number), [])
        for number in (256 ** 2, 300 ** 2, 10 ** 59):
            self.assertEqual(told_steps((4, 2), (4, 4), 7, spoilt, number), ("spoilt", 0))

    def test_fewer_bits_than_tops(self):
        spoilt = filled_table((2, 1), (6, 0), lambda cell: None)
        for number in (15 ** 2, 31 ** 2, 32 ** 2 - 1):
            self.assertEqual(root_steps((2, 1), (6, 0), 2, spoilt, number), [])
            self.assertEqual(root((2, 1), (6, 0), 2, spoilt, number)[0], isqrt(number))
        self.assertEqual(told_steps((2, 1), (6, 0), 2, spoilt, 32 ** 2), ("spoilt", 0))

    def test_more_parts_than_bits(self):
        # Parts are above wide + 1 only where fresh is far below them: (2, 1) lets it be parts - 1.
        spoilt = filled_table((2, 1), (1, 7), lambda cell: None)
        self.assertEqual(least_fresh((2, 1), (1, 7)), 6)
        for fresh, number in ((6, 63 ** 2), (6, 32 ** 2), (7, 127 ** 2)):
            self.assertEqual(root_steps((2, 1), (1, 7), fresh, spoilt, number), [])
        self.assertEqual(told_steps((2, 1), (1, 7), 6, spoilt, 64 ** 2), ("spoilt", 0))
        # Of a fresh that is not told of, too: five bits, and parts are 7.
        self.assertEqual(root_steps((2, 1), (1, 7), 2, spoilt, 31 ** 2), [])
        self.assertEqual(told_steps((2, 1), (1, 7), 2, spoilt, 32 ** 2), ("spoilt", 0))

    def test_top_is_at_most_the_greatest(self):
        # The first sum is 2 ** wide itself, and there is no such top.
        for kind, looks, fresh in SERVED:
            table = root_table(kind, looks, fresh)
            for bits in range(fresh + BITS[kind[0]], fresh + 24):
                for less in (1, 2, 3):
                    self.assert_root(kind, looks, fresh, table, (2 ** bits - less) ** 2)
                    self.assert_root(kind, looks, fresh, table, (2 ** bits - less) ** 2 + 1)

    def test_wrong_tables(self):
        chance = random.Random(25)
        spoilt_at = set()
        for kind, looks, fresh in SERVED:
            anything = list(figures_of(kind)) + [None]
            for share in (1, 3, 10, 40):
                table = root_table(kind, looks, fresh)
                for row in table:
                    for place in range(len(row)):
                        if chance.randrange(share) == 0:
                            row[place] = chance.choice(anything)
                for number in chance.sample(some_numbers(chance), 250):
                    expected = walked(kind, looks, fresh, table, number)
                    self.assertEqual(told_steps(kind, looks, fresh, table, number), expected)
                    self.assert_alike(kind, looks, fresh, table, number, expected)
                    if expected[0] == "spoilt":
                        spoilt_at.add(expected[1])
        self.assertLessEqual(set(range(5)), spoilt_at)

    def assert_alike(self, kind, looks, fresh, table, number, expected):
        if expected[0] == "told":
            self.assertEqual(root(kind, looks, fresh, table, number)[0], isqrt(number))
        else:
            with self.assertRaises(Spoilt) as caught:
                root(kind, looks, fresh, table, number)
            self.assertIs(type(caught.exception), Spoilt)
            self.assertEqual(caught.exception.step, expected[1])

    def test_just_at_the_bound(self):
        # With the base 2 a sum may be as far as the weight from the square root; here the weight is 1,
        # and the first sum of 9 and of 10 is 10.
        for figure, number, expected in (
            (0, 81, ("told", [0])), (0, 82, ("told", [0])), (1, 81, ("spoilt", 0)), (-1, 81, ("told", [-1])),
            (1, 99, ("spoilt", 0)), (1, 100, ("told", [1])), (1, 101, ("told", [1])),
            (-1, 99, ("told", [-1])), (-1, 100, ("told", [-1])), (-1, 101, ("spoilt", 0)), (0, 120, ("told", [0])),
        ):
            table = filled_table((2, 1), (1, 1), lambda cell: figure)
            self.assertEqual(told_steps((2, 1), (1, 1), 3, table, number), expected)
            self.assertEqual(walked((2, 1), (1, 1), 3, table, number), expected)
            self.assert_alike((2, 1), (1, 1), 3, table, number, expected)

    def test_squares_at_the_bound_of_all_steps(self):
        # Figures by the table that are each one too great or too small, as far as squares let them be.
        for kind, looks, fresh in SERVED:
            plain = root_table(kind, looks, fresh)
            for aside in (1, -1):
                table = filled_table(kind, looks, lambda cell: None)
                for line, row in enumerate(plain):
                    for place, figure in enumerate(row):
                        if figure is not None:
                            table[line][place] = max(-kind[1], min(kind[1], figure + aside))
                for near in range(2 ** (fresh + 1), 2 ** (fresh + 1) + 400):
                    for number in (near * near - 1, near * near, near * near + 1):
                        expected = walked(kind, looks, fresh, table, number)
                        self.assertEqual(told_steps(kind, looks, fresh, table, number), expected)

    def test_told_lists_are_the_askers_own(self):
        table = root_table((4, 2), (4, 4), 7)
        first = root_steps((4, 2), (4, 4), 7, table, 10 ** 40)
        copy = list(first)
        first.append(7)
        first[0] = None
        self.assertEqual(root_steps((4, 2), (4, 4), 7, table, 10 ** 40), copy)
        plain = root_steps((4, 2), (4, 4), 7, table, 3)
        plain.append(1)
        self.assertEqual(root_steps((4, 2), (4, 4), 7, table, 3), [])

    def test_within_a_moment(self):
        # In a process of its own, so that an answer that never comes fails, too.
        script = (
            "from slackfigures.roots import first_root_fault, root, root_table\n"
            "for kind, looks, fresh in (((2, 1), (10, 3), 8), ((4, 2), (8, 4), 8), ((16, 14), (6, 4), 9)):\n"
            "    for turn in range(10):\n"
            "        table = root_table(kind, looks, fresh)\n"
            "        assert first_root_fault(kind, looks, fresh, table) is None\n"
            "    for turn in range(300):\n"
            "        root(kind, looks, fresh, table, 10 ** 60 - 7 * turn)\n"
        )
        subprocess.run([sys.executable, "-c", script], cwd=TOP, check=True, timeout=60)


if __name__ == "__main__":
    unittest.main()
