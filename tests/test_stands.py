import random
import subprocess
import sys
import unittest
from pathlib import Path

from slackfigures.errors import Spoilt
from slackfigures.stands import first_showing, stands
from slackfigures.tables import plain_table
from slackfigures.tworows import trail
from tests.common import (
    BITS, cell_places, copy_reckoned, figures_of, filled_table, half_reckoned, is_met_reckoned, is_whole,
    next_pair_reckoned, serves_reckoned, signed, tops_reckoned, with_entry,
)
from tests.divisions import good_table, wrong_tables

TOP = Path(__file__).resolve().parent.parent

TRIED = [((2, 1), (1, 1)), ((2, 1), (3, 3)), ((2, 1), (2, 4)), ((4, 3), (3, 2)), ((4, 2), (4, 4)), ((8, 7), (4, 3))]


def bits_in(number):
    return len(bin(number)) - 2


def step_reckoned(kind, looks, table, divisor, pair):
    """The look of the pair's step, and the pair behind it, or None where it is spoilt."""
    base, parts, wide = kind[0], looks[1], bits_in(divisor)
    width = wide + BITS[base] + 2
    one, other = base * pair[0] % 2 ** width, base * pair[1] % 2 ** width
    low = 2 ** (wide - parts)
    look = signed(one // low + other // low, width - wide + parts)
    line, place = cell_places(kind, looks, (divisor // 2 ** (wide - looks[0]), look))
    figure = table[line][place]
    if figure is None or not serves_reckoned(kind, figure, (wide, divisor, signed(one + other, width))):
        return look, None
    return look, next_pair_reckoned(width, one, other, -figure * divisor % 2 ** width)


def run_reckoned(kind, looks, table, divisor, r):
    """The pairs of the run that begins at r, with their looks, until one comes again or a step is spoilt."""
    width = bits_in(divisor) + BITS[kind[0]] + 2
    pair = (r % 2 ** width, 0)
    looked = {}
    while pair is not None and pair not in looked:
        looked[pair], following = step_reckoned(kind, looks, table, divisor, pair)
        pair = following
    return looked


def beginnings_reckoned(kind, divisor):
    base, most = kind
    return [r for r in range(-2 * divisor, 2 * divisor + 1) if (base - 1) * abs(r) <= most * divisor]


def stands_reckoned(kind, looks, table, divisor):
    come = set()
    for r in beginnings_reckoned(kind, divisor):
        come.update(run_reckoned(kind, looks, table, divisor, r))
    return sorted(come)


def showings_reckoned(kind, looks, table, wide, top):
    """For each look of the top that is shown the first showing, and the sum of the stands."""
    shown, many = {}, 0
    for divisor in range(2 ** (wide - 1), 2 ** wide):
        if divisor // 2 ** (wide - looks[0]) == top:
            come = set()
            for r in beginnings_reckoned(kind, divisor):
                run = run_reckoned(kind, looks, table, divisor, r)
                come.update(run)
                for steps, look in enumerate(run.values()):
                    shown[look] = min(shown.get(look, (steps, divisor, r)), (steps, divisor, r))
            many += len(come)
    told = {look: ("shown", divisor, r, steps) for look, (steps, divisor, r) in shown.items()}
    return told, ("never", many)


def tables_tried(kind, looks):
    chance = random.Random(f"stands {kind} {looks}")
    return [plain_table(kind, looks, 2), good_table(kind, looks, 2, chance)] + wrong_tables(kind, looks, 2)


class TestStands(unittest.TestCase):
    def assert_stands(self, kind, looks, table, divisor):
        copy = copy_reckoned(table)
        told = stands(kind, looks, table, divisor)
        self.assertEqual(told, stands_reckoned(kind, looks, table, divisor))
        self.assertIsInstance(told, list)
        self.assertTrue(all(type(pair) is tuple and len(pair) == 2 for pair in told))
        self.assertTrue(all(is_whole(number) for pair in told for number in pair))
        self.assertEqual(table, copy)
        return told

    def test_divisors_of_as_few_bits_as_the_looks_need(self):
        for kind, looks in TRIED:
            wide = max(looks)
            for table in tables_tried(kind, looks):
                for divisor in range(2 ** (wide - 1), 2 ** wide):
                    self.assert_stands(kind, looks, table, divisor)

    def test_divisors_of_more_bits(self):
        chance = random.Random(11)
        for kind, looks in TRIED:
            for table in tables_tried(kind, looks):
                for wide in range(max(looks) + 1, 7):
                    for divisor in (2 ** (wide - 1), 2 ** wide - 1, chance.randrange(2 ** (wide - 1), 2 ** wide)):
                        self.assert_stands(kind, looks, table, divisor)

    def test_divisors_of_ten_bits(self):
        for kind, looks in TRIED + [((16, 15), (5, 4))]:
            for table in (plain_table(kind, looks, 2), wrong_tables(kind, looks, 2)[-1]):
                for divisor in (512, 777, 1023):
                    self.assert_stands(kind, looks, table, divisor)

    def test_with_nothing_that_serves_the_beginnings_alone(self):
        for kind, looks in TRIED:
            table = filled_table(kind, looks, lambda cell: None)
            for divisor in (2 ** (max(looks) - 1), 2 ** max(looks) + 1):
                told = self.assert_stands(kind, looks, table, divisor)
                self.assertEqual(len(told), len(beginnings_reckoned(kind, divisor)))
                self.assertTrue(all(pair[1] == 0 for pair in told))

    def test_sorted_each_once(self):
        for kind, looks in TRIED:
            told = stands(kind, looks, plain_table(kind, looks, 2), 2 ** max(looks) - 1)
            self.assertEqual(told, sorted(set(told)))

    def test_written_out(self):
        # No figure stands, so each run ends where it begins: r is -1, 0 and 1, of the width 1 + 1 + 2.
        table = filled_table((2, 1), (1, 0), lambda cell: None)
        self.assertEqual(stands((2, 1), (1, 0), table, 1), [(0, 0), (1, 0), (15, 0)])

    def test_told_again_the_same(self):
        kind, looks = (4, 2), (4, 4)
        table = plain_table(kind, looks, 2)
        first = stands(kind, looks, table, 13)
        copy = list(first)
        first.pop()
        first[0] = None
        self.assertEqual(stands(kind, looks, table, 13), copy)


class TestFirstShowing(unittest.TestCase):
    def assert_showings(self, kind, looks, table, wide, top, every=1):
        shown, never = showings_reckoned(kind, looks, table, wide, top)
        half = half_reckoned(kind, looks)
        edges = {-half, half - 1}
        if shown:
            edges |= {min(shown), min(shown) - 1, max(shown), max(shown) + 1}
        late = {look for look in shown if shown[look][3] > 0}
        asked = set(range(-half, half, every)) | late | {look for look in edges if -half <= look < half}
        copy = copy_reckoned(table)
        for look in sorted(asked):
            told = first_showing(kind, looks, table, wide, (top, look))
            self.assertEqual(told, shown.get(look, never))
            self.assertIs(type(told), tuple)
        self.assertEqual(table, copy)
        return {shown[look] for look in late}

    def test_small_widths(self):
        for kind, looks in TRIED[:4]:
            for table in tables_tried(kind, looks):
                for wide in range(max(looks), 6):
                    for top in tops_reckoned(looks):
                        self.assert_showings(kind, looks, table, wide, top)

    def test_widths_to_seven(self):
        for kind, looks in TRIED:
            half = half_reckoned(kind, looks)
            for table in (plain_table(kind, looks, 2), wrong_tables(kind, looks, 2)[-1]):
                for wide in (6, 7) if looks[0] > 2 else (6,):
                    for top in (tops_reckoned(looks)[0], tops_reckoned(looks)[-1]):
                        self.assert_showings(kind, looks, table, wide, top, half // 3)

    def test_runs_of_several_steps(self):
        kind, looks = (2, 1), (3, 1)
        late = set()
        # Among these are tables that show a cell only behind two steps, or three.
        for seed in (0, 1, 2, 3, 42, 283):
            chance = random.Random(seed)
            entries = list(figures_of(kind)) + [None]
            table = filled_table(kind, looks, lambda cell: chance.choice(entries))
            for wide in (5, 7):
                for top in tops_reckoned(looks):
                    late |= self.assert_showings(kind, looks, table, wide, top)
        self.assertLessEqual({1, 3}, {steps for word, divisor, r, steps in late})

    def test_cells_that_are_not_met_are_never_shown(self):
        kind, looks = (4, 3), (3, 2)
        table = plain_table(kind, looks, 2)
        half = half_reckoned(kind, looks)
        for top in tops_reckoned(looks):
            for look in range(-half, half):
                if not is_met_reckoned(kind, looks, 2, (top, look)):
                    self.assertEqual(first_showing(kind, looks, table, 4, (top, look))[0], "never")

    def test_what_is_shown_is_seen_by_a_division(self):
        for kind, looks in TRIED:
            table = plain_table(kind, looks, 2)
            base, wide, top = kind[0], max(looks) + 1, tops_reckoned(looks)[-1]
            half = half_reckoned(kind, looks)
            for look in range(-half, half):
                told = first_showing(kind, looks, table, wide, (top, look))
                if told[0] == "shown":
                    divisor, r, steps = told[1:]
                    trace = trail(kind, looks, table, r * base ** (steps + 1), divisor, steps + 1)
                    self.assertEqual(trace[steps][2], look)
                    self.assertNotIn(look, [step[2] for step in trace[:steps]])

    def test_a_cell_that_spoils_is_shown_all_the_same(self):
        kind, looks = (2, 1), (3, 3)
        good = plain_table(kind, looks, 2)
        for look in range(-14, 14):
            table = with_entry(kind, looks, good, (5, look), None)
            told = first_showing(kind, looks, table, 6, (5, look))
            self.assertEqual(told[0], first_showing(kind, looks, good, 6, (5, look))[0])
            if told[0] == "shown":
                divisor, r, steps = told[1:]
                with self.assertRaises(Spoilt) as caught:
                    trail(kind, looks, table, r * 2 ** (steps + 1), divisor, steps + 1)
                self.assertEqual(caught.exception.step, steps)

    def test_never_with_the_sum_of_the_stands(self):
        kind, looks = (4, 2), (4, 4)
        table = filled_table(kind, looks, lambda cell: None)
        many = sum(len(stands(kind, looks, table, divisor)) for divisor in (20, 21))
        self.assertEqual(first_showing(kind, looks, table, 5, (10, 65)), ("never", many))
        self.assertEqual(first_showing(kind, looks, table, 5, (10, 0)), ("shown", 20, 0, 0))

    def test_within_a_moment(self):
        # In a process of its own, so that an answer that never comes fails, too.
        script = (
            "from slackfigures.stands import first_showing, stands\n"
            "from slackfigures.tables import plain_table\n"
            "for kind, looks in (((2, 1), (1, 1)), ((4, 2), (4, 4)), ((8, 7), (4, 3)), ((16, 12), (6, 4))):\n"
            "    table = plain_table(kind, looks, 2)\n"
            "    for divisor in range(1000, 1024):\n"
            "        stands(kind, looks, table, divisor)\n"
            "    for look in range(-5, 5):\n"
            "        first_showing(kind, looks, table, 7, (2 ** looks[0] - 1, look))\n"
            "    first_showing(kind, looks, table, 7, (2 ** looks[0] - 1, kind[0] * 2 ** looks[1] + 1))\n"
        )
        subprocess.run([sys.executable, "-c", script], cwd=TOP, check=True, timeout=60)


if __name__ == "__main__":
    unittest.main()
