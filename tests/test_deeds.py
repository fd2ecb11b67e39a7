import random
import subprocess
import sys
import unittest
from pathlib import Path

from slackfigures.bench import Bench, replayed
from slackfigures.deeds import read_deeds, show_deeds
from slackfigures.errors import NoText
from slackfigures.tables import plain_table
from tests.mutants import STRANGE_WORDS, end_mutants, sign_mutants, word_mutants

TOP = Path(__file__).resolve().parent.parent

DEEDS = [
    ("begin", -1000, 7, 250), ("rows", 0, 1, 0), ("step", 0), ("put", 8, -12, None), ("put", 10, 0, -2),
    ("step", -3), ("begin", 10 ** 60 - 1, 10 ** 60 - 1, 1), ("rows", 1 - 10 ** 60, 2, 249), ("put", -1, 10 ** 59, 77),
]
TEXT = (
    "begin -1000 7 250\nrows 0 1 0\nstep 0\nput 8 -12 none\nput 10 0 -2\nstep -3\n"
    f"begin {'9' * 60} {'9' * 60} 1\nrows -{'9' * 60} 2 249\nput -1 1{'0' * 59} 77"
)


def number_reckoned(word):
    """The number that the word writes, or None."""
    digits = word[1:] if word[:1] == "-" else word
    if not 1 <= len(digits) <= 60 or set(digits) - set("0123456789"):
        return None
    if digits[0] == "0" and word != "0":
        return None
    return int(word)


def deed_reckoned(row):
    """The deed that the row writes, or None."""
    word, *others = row.split(" ")
    numbers = [number_reckoned(other) for other in others]
    if word in ("begin", "rows") and len(others) == 3 and None not in numbers:
        if numbers[1] >= 1 and 0 <= numbers[2] <= 250:
            return (word, *numbers)
    if word == "step" and len(others) == 1 and None not in numbers:
        return (word, *numbers)
    if word == "put" and len(others) == 3 and None not in numbers[:2]:
        if others[2] == "none" or numbers[2] is not None:
            return (word, *numbers)
    return None


def read_reckoned(text):
    deeds = [deed_reckoned(row) for row in text.split("\n")] if text else []
    return None if None in deeds else deeds


def any_deeds(chance, many):
    def number():
        return chance.choice([chance.randrange(-20, 20), chance.randrange(-(10 ** 60) + 1, 10 ** 60), 0, 1, -1])

    def deed():
        word = chance.choice(["begin", "rows", "step", "put"])
        if word == "step":
            return word, number()
        if word == "put":
            return word, number(), number(), chance.choice([None, number()])
        return word, number(), abs(number()) or 1, chance.randrange(251)

    return [deed() for turn in range(many)]


class TestShowDeeds(unittest.TestCase):
    def test_written_out(self):
        self.assertEqual(show_deeds(DEEDS), TEXT)
        self.assertEqual(show_deeds([]), "")
        self.assertEqual(show_deeds([("step", 5)]), "step 5")

    def test_longer_numbers_are_written_so_too(self):
        great = 10 ** 200 - 1
        text = show_deeds([("begin", -great, great, 250)])
        self.assertEqual(text, f"begin -{'9' * 200} {'9' * 200} 250")
        with self.assertRaises(NoText):
            read_deeds(text)

    def test_nothing_handed_in_is_changed(self):
        deeds = list(DEEDS)
        show_deeds(deeds)
        self.assertEqual(deeds, DEEDS)


class TestReadDeeds(unittest.TestCase):
    def assert_read(self, text):
        expected = read_reckoned(text)
        if expected is None:
            with self.assertRaises(NoText) as caught:
                read_deeds(text)
            self.assertIs(type(caught.exception), NoText)
        else:
            told = read_deeds(text)
            self.assertEqual(told, expected)
            self.assertIs(type(told), list)
            self.assertTrue(all(type(deed) is tuple for deed in told))
            self.assertEqual(show_deeds(told), text)
        return expected

    def test_read_back(self):
        self.assertEqual(read_deeds(TEXT), DEEDS)
        self.assertEqual(read_deeds(""), [])
        chance = random.Random(81)
        for many in (0, 1, 2, 10, 600):
            for turn in range(5):
                deeds = any_deeds(chance, many)
                self.assertEqual(read_deeds(show_deeds(deeds)), deeds)

    def test_of_a_bench(self):
        table = plain_table((4, 2), (4, 4), 2)
        bench = Bench((4, 2), (4, 4), table)
        bench.begin(10 ** 59, -(-(10 ** 40)), 60)
        bench.begin_rows(-1000, 7, 9)
        for turn in range(40):
            bench.go(turn % 2)
            bench.put(8 + turn % 8, turn - 20, None if turn % 3 else turn % 5 - 2)
        deeds = read_deeds(show_deeds(bench.deeds()))
        self.assertEqual(deeds, bench.deeds())
        self.assertEqual(replayed((4, 2), (4, 4), table, deeds).looked(), bench.looked())

    def test_words_and_rows_changed(self):
        refused = sum(self.assert_read(changed) is None for changed in word_mutants(TEXT))
        self.assertGreater(refused, 500)

    def test_signs_changed(self):
        text = "begin -10 7 250\nput 8 -12 none\nstep 0\nrows 0 1 0\nput 8 1 20"
        for changed in sign_mutants(text, " \n-+0159nx\t\u0664"):
            self.assert_read(changed)

    def test_ends_changed(self):
        for text in [TEXT] + TEXT.split("\n"):
            for changed in end_mutants(text):
                self.assert_read(changed)

    def test_numbers_at_their_bounds(self):
        great = "9" * 60
        for row, is_read in (
            (f"begin {great} 1 0", True), (f"begin -{great} 1 0", True), (f"begin {great}9 1 0", False),
            (f"begin -{great}9 1 0", False), (f"rows 0 {great} 0", True), (f"rows 0 {great}9 0", False),
            ("begin 0 0 0", False), ("begin 0 -1 0", False), ("rows 0 0 0", False), (f"rows 0 -{great} 0", False),
            ("begin 0 1 250", True), ("begin 0 1 251", False), ("begin 0 1 -1", False), ("rows 0 1 251", False),
            ("rows 0 1 250", True), (f"rows 0 1 {great}", False), (f"step {great}", True), (f"step -{great}", True),
            (f"step 1{great}", False), (f"put {great} -{great} {great}", True), (f"put 1{great} 0 0", False),
            (f"put 0 1{great} 0", False), (f"put 0 0 1{great}", False), (f"put 0 0 -{great}", True),
            ("put 0 none 0", False), ("put none 0 0", False), ("step none", False), ("begin none 1 1", False),
            ("begin 1 none 1", False), ("begin 1 1 none", False), ("put 0 0 None", False), ("put 0 0 .", False),
            ("begin -0 1 1", False), ("begin 01 1 1", False), ("begin +1 1 1", False), ("put 0 0 -0", False),
            ("step", False), ("step 0 0", False), ("put 0 0", False), ("begin 0 1", False), ("begin 0 1 1 1", False),
            ("Step 0", False), ("steps 0", False), ("done", False), ("figure 1", False), ("row 0 1 0", False),
        ):
            self.assertEqual(self.assert_read(row) is not None, is_read, row)

    def test_a_strange_word_for_each_number(self):
        for row in ("begin 5 7 9", "rows 5 7 9", "step 5", "put 8 5 1"):
            words = row.split(" ")
            for place in range(1, len(words)):
                for strange in STRANGE_WORDS:
                    self.assert_read(" ".join(words[:place] + [strange] + words[place + 1:]))

    def test_texts_of_any_sort(self):
        for text in (" ", "\n", "\n\n", "  ", "none", "0", "step 0\n", "\nstep 0", "step 0\n\nstep 0", "step 0\rstep 1", "\x00"):
            self.assertIsNone(self.assert_read(text))

    def test_new_lists_each_time(self):
        for text in ("", "step 0\nstep 1"):
            first = read_deeds(text)
            copy = list(first)
            first.append(("step", 7))
            self.assertEqual(read_deeds(text), copy)

    def test_six_hundred_deeds_within_a_moment(self):
        # In a process of its own, so that an answer that never comes fails, too.
        script = (
            "from slackfigures.deeds import read_deeds, show_deeds\n"
            "deeds = [('begin', 10 ** 59 + turn, 7, 250) for turn in range(600)]\n"
            "for turn in range(20):\n"
            "    assert read_deeds(show_deeds(deeds)) == deeds\n"
        )
        subprocess.run([sys.executable, "-c", script], cwd=TOP, check=True, timeout=60)


if __name__ == "__main__":
    unittest.main()
