import random
import subprocess
import sys
import unittest
from pathlib import Path

from slackfigures.errors import NoText
from slackfigures.tables import is_table, plain_table
from slackfigures.texts import read_table, show_table
from tests.common import KINDS, copy_reckoned, figures_of, filled_table, half_reckoned
from tests.mutants import end_mutants, sign_mutants, word_mutants

TOP = Path(__file__).resolve().parent.parent


def any_table(kind, looks, chance):
    return filled_table(kind, looks, lambda cell: chance.choice(list(figures_of(kind)) + [None]))


def written(table):
    """The text of a table, as the document tells it."""
    return "\n".join(" ".join("." if figure is None else f"{figure:d}" for figure in row) for row in table)


def read_reckoned(kind, looks, text):
    """The table of which this is the text, or None."""
    known = {f"{figure:d}": figure for figure in figures_of(kind)}
    known["."] = None
    rows = [row.split(" ") for row in text.split("\n")]
    if len(rows) != 2 ** (looks[0] - 1) or any(len(row) != 2 * half_reckoned(kind, looks) for row in rows):
        return None
    if any(word not in known for row in rows for word in row):
        return None
    return [[known[word] for word in row] for row in rows]


class TestShowTable(unittest.TestCase):
    def test_any_tables(self):
        chance = random.Random(31)
        for kind in KINDS:
            for looks in ((1, 0), (2, 1), (3, 0), (1, 3)):
                table = any_table(kind, looks, chance)
                copy = copy_reckoned(table)
                self.assertEqual(show_table(table), written(table))
                self.assertEqual(table, copy)

    def test_written_out(self):
        self.assertEqual(show_table(plain_table((2, 1), (1, 0), 1)), ". . -1 -1 1 1 . .")
        self.assertEqual(
            show_table([[None, 0, 1, -1, 1, 1, 0, None], [-1, None, None, 0, 0, 0, 1, 1]]),
            ". 0 1 -1 1 1 0 .\n-1 . . 0 0 0 1 1",
        )


class TestReadTable(unittest.TestCase):
    def assert_read(self, kind, looks, text):
        """Read as the table that is so written, or refused."""
        expected = read_reckoned(kind, looks, text)
        if expected is None:
            with self.assertRaises(NoText) as caught:
                read_table(kind, looks, text)
            self.assertIs(type(caught.exception), NoText)
        else:
            told = read_table(kind, looks, text)
            self.assertEqual(told, expected)
            self.assertTrue(is_table(kind, looks, told))
        return expected

    def test_read_back(self):
        chance = random.Random(32)
        for kind in KINDS:
            for looks in ((1, 0), (2, 1), (3, 0), (1, 3), (4, 2)):
                for turn in range(3):
                    table = any_table(kind, looks, chance)
                    self.assertEqual(read_table(kind, looks, show_table(table)), table)
        for kind, looks in (((4, 2), (4, 4)), ((8, 7), (5, 3)), ((16, 15), (5, 4))):
            table = plain_table(kind, looks, 2)
            self.assertEqual(read_table(kind, looks, show_table(table)), table)

    def test_words_and_rows_changed(self):
        chance = random.Random(33)
        refused = 0
        for kind, looks in (((2, 1), (1, 0)), ((4, 3), (2, 0)), ((16, 12), (2, 0))):
            text = show_table(any_table(kind, looks, chance))
            for changed in word_mutants(text):
                refused += self.assert_read(kind, looks, changed) is None
        self.assertGreater(refused, 1000)

    def test_signs_changed(self):
        chance = random.Random(34)
        for kind, looks in (((2, 1), (1, 0)), ((4, 2), (2, 0)), ((16, 15), (2, 0))):
            text = show_table(any_table(kind, looks, chance))
            for changed in sign_mutants(text, " \n-+.0129\tx\u0663"):
                self.assert_read(kind, looks, changed)

    def test_ends_changed(self):
        chance = random.Random(35)
        for kind, looks in (((2, 1), (1, 0)), ((4, 2), (2, 1))):
            text = show_table(any_table(kind, looks, chance))
            for changed in end_mutants(text):
                self.assert_read(kind, looks, changed)

    def test_texts_of_any_sort(self):
        for text in ("", " ", "\n", ".", "0", "none", "\n" * 7, " " * 7, ". " * 8, " ." * 8, "." * 8, "0\n" * 8, "\x00"):
            for looks in ((1, 0), (2, 0), (1, 1)):
                self.assertIsNone(self.assert_read((2, 1), looks, text))

    def test_figures_beyond_the_kind(self):
        for kind in KINDS:
            row = ["."] * (2 * half_reckoned(kind, (1, 0)))
            for place in (0, len(row) // 2, len(row) - 1):
                for figure in (kind[1], -kind[1], 0):
                    words = row[:place] + [str(figure)] + row[place + 1:]
                    self.assertIsNotNone(self.assert_read(kind, (1, 0), " ".join(words)))
                for figure in (kind[1] + 1, -kind[1] - 1, kind[0], 100, -(10 ** 59), "1" * 5000):
                    words = row[:place] + [str(figure)] + row[place + 1:]
                    self.assertIsNone(self.assert_read(kind, (1, 0), " ".join(words)))

    def test_tables_of_other_kinds_and_looks(self):
        text = show_table(filled_table((4, 2), (2, 1), lambda cell: 2))
        self.assertIsNotNone(self.assert_read((4, 2), (2, 1), text))
        self.assertIsNotNone(self.assert_read((4, 3), (2, 1), text))
        for kind, looks in (((4, 2), (1, 1)), ((4, 2), (2, 2)), ((4, 2), (3, 1)), ((2, 1), (2, 1)), ((8, 4), (2, 1))):
            self.assertIsNone(self.assert_read(kind, looks, text))

    def test_tables_are_of_let_looks_alone(self):
        text = show_table(filled_table((16, 8), (1, 10), lambda cell: 0))
        with self.assertRaises(NoText):
            read_table((16, 8), (1, 10), text)

    def test_new_lists_each_time(self):
        text = show_table(plain_table((4, 2), (4, 4), 2))
        one, other = read_table((4, 2), (4, 4), text), read_table((4, 2), (4, 4), text)
        lists = [one, other] + one + other
        self.assertEqual(len({id(held) for held in lists}), len(lists))
        one[0][0] = 1
        one.pop()
        self.assertEqual(read_table((4, 2), (4, 4), text), other)

    def test_sixteen_thousand_cells_within_a_moment(self):
        # In a process of its own, so that an answer that never comes fails, too.
        script = (
            "from slackfigures.tables import plain_table\n"
            "from slackfigures.texts import read_table, show_table\n"
            "table = plain_table((16, 14), (6, 4), 2)\n"
            "for turn in range(20):\n"
            "    assert read_table((16, 14), (6, 4), show_table(table)) == table\n"
        )
        subprocess.run([sys.executable, "-c", script], cwd=TOP, check=True, timeout=60)


if __name__ == "__main__":
    unittest.main()
