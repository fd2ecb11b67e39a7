import random
import subprocess
import sys
import unittest
from pathlib import Path

from slackfigures.desk import Desk
from slackfigures.errors import NoLooks, NoRow, NoTable, SlackError, Spoilt
from slackfigures.least import least_looks
from slackfigures.quotients import divide, quotient, spoilt_by
from slackfigures.tables import first_fault, plain_table
from slackfigures.texts import show_table
from tests.common import (
    KINDS, NO_NUMBERS, cell_places, cells_reckoned, figures_of, good_reckoned, half_reckoned, is_met_reckoned,
    tops_reckoned, with_entry,
)
from tests.mutants import STRANGE_WORDS, end_mutants, sign_mutants, word_mutants

TOP = Path(__file__).resolve().parent.parent

ROWS = [
    "kind 4 3", "looks 4 5", "sight 1", "cell 8 12", "put 8 12 -1", "put 15 0 none", "good 8 3", "fault", "spoilt",
    "divide -1000 7", "least", "show 15",
]


def asked(desk, row):
    """The answer, or the refusal's class."""
    try:
        return desk.say(row)
    except SlackError as refused:
        return type(refused)


def all_of(desk, looks=(4, 4)):
    """All that can be seen of a desk with the base 4."""
    tops = [desk.say(f"show {top}") for top in tops_reckoned(looks)]
    edges = [desk.say(f"good {tops_reckoned(looks)[0]} {look}") for look in range(-34, 34)]
    return tops + edges + [desk.say("fault"), desk.say("spoilt"), desk.say("least")]


def shown(table):
    return show_table(table).split("\n")


class DeskTest(unittest.TestCase):
    def refused(self, desk, row, refusal=NoRow):
        with self.assertRaises(refusal) as caught:
            desk.say(row)
        self.assertIs(type(caught.exception), refusal)
        return caught.exception

    def desk_with(self, kind, looks, sight):
        """A desk that has these, told row by row, over looks and kinds that serve all the way."""
        desk = Desk()
        # (6, 4) are let for every kind, and serve where anything does.
        self.assertEqual(desk.say("looks 6 4"), "ok")
        self.assertEqual(desk.say(f"sight {sight}"), "ok")
        self.assertEqual(desk.say(f"kind {kind[0]} {kind[1]}"), "ok")
        self.assertEqual(desk.say(f"looks {looks[0]} {looks[1]}"), "ok")
        return desk


class TestHaving(DeskTest):
    def test_at_first(self):
        desk = Desk()
        table = plain_table((4, 2), (4, 4), 2)
        self.assertEqual([desk.say(f"show {top}") for top in range(8, 16)], shown(table))
        self.assertEqual(desk.say("fault"), "none")
        self.assertEqual(desk.say("spoilt"), "none")
        self.assertEqual(desk.say("least"), "4 4")
        self.assertEqual(desk.say("good 8 3"), "0 1")

    def test_other_kinds_looks_and_sights(self):
        for kind, looks in (((2, 1), (1, 1)), ((4, 2), (5, 4)), ((8, 6), (5, 4)), ((16, 12), (6, 4)), ((16, 15), (5, 4))):
            for sight in (1, 2):
                desk = self.desk_with(kind, looks, sight)
                table = plain_table(kind, looks, sight)
                self.assertEqual([desk.say(f"show {top}") for top in tops_reckoned(looks)], shown(table))
                self.assertEqual(desk.say("fault"), "none")

    def test_the_plain_table_is_had_anew(self):
        for row in ("kind 4 2", "looks 4 4", "sight 2"):
            desk = Desk()
            desk.say("put 8 0 2")
            self.assertEqual(desk.say("cell 8 0"), "2")
            self.assertEqual(desk.say(row), "ok")
            self.assertEqual(desk.say("cell 8 0"), "0")

    def test_kinds_that_are_none(self):
        desk = Desk()
        before = all_of(desk)
        for base in range(-2, 20):
            for most in range(-2, 18):
                if (base, most) not in KINDS:
                    self.refused(desk, f"kind {base} {most}")
        for row in ("kind", "kind 4", "kind 4 2 2", "kind 4 none", f"kind {10 ** 59} 2", "kind 4,2", "kind 4 02"):
            self.refused(desk, row)
        self.assertEqual(all_of(desk), before)

    def test_kinds_at_their_bounds(self):
        for base, most in KINDS:
            answer = asked(Desk(), f"kind {base} {most}")
            try:
                plain_table((base, most), (4, 4), 2)
                self.assertEqual(answer, "ok")
            except NoTable:
                self.assertIs(answer, NoTable)

    def test_a_kind_for_which_the_looks_are_not_let(self):
        # 2 ** (tops - 1) * 2 * half is at most 20000 with the base 2, and above it with others.
        desk = self.desk_with((2, 1), (10, 3), 2)
        before = [desk.say(f"show {top}") for top in (512, 777, 1023)]
        for base, most in KINDS:
            if base > 2:
                self.refused(desk, f"kind {base} {most}")
        self.assertEqual([desk.say(f"show {top}") for top in (512, 777, 1023)], before)

    def test_looks_that_are_not_let(self):
        desk = Desk()
        before = all_of(desk)
        for row in (
            "looks 0 4", "looks 11 4", "looks 4 -1", "looks 4 11", "looks 10 10", "looks 10 4", "looks -4 4", "looks 9 4",
            f"looks {10 ** 59} 1", f"looks 4 {-(10 ** 59)}", "looks", "looks 4", "looks 4 4 4", "looks 4 none",
        ):
            self.refused(desk, row)
        self.assertEqual(all_of(desk), before)
        # 2 ** 7 * 2 * 66 is 16896, and twice that is too much.
        self.assertEqual(desk.say("looks 8 4"), "ok")
        self.refused(desk, "looks 9 4")
        # 2 ** 3 * 2 * 1026 is 16416.
        self.assertEqual(desk.say("looks 4 8"), "ok")
        self.refused(desk, "looks 4 9")

    def test_looks_that_are_too_short(self):
        desk = Desk()
        desk.say("put 8 0 2")
        before = all_of(desk)
        for looks in ((1, 0), (3, 3), (4, 3), (3, 4), (1, 10)):
            refusal = self.refused(desk, f"looks {looks[0]} {looks[1]}", NoTable)
            with self.assertRaises(NoTable) as caught:
                plain_table((4, 2), looks, 2)
            self.assertEqual((refusal.top, refusal.look), (caught.exception.top, caught.exception.look))
            self.assertEqual(all_of(desk), before)
        for row in ("kind 8 4", "kind 16 8", "kind 16 10"):
            self.refused(desk, row, NoTable)
            self.assertEqual(all_of(desk), before)

    def test_a_sight_by_which_there_is_none(self):
        desk = Desk()
        self.assertEqual(desk.say("sight 1"), "ok")
        self.assertEqual(desk.say("looks 4 3"), "ok")
        desk.say("put 8 0 2")
        before = all_of(desk)
        self.refused(desk, "sight 2", NoTable)
        self.assertEqual(all_of(desk), before)
        self.assertEqual(desk.say("least"), "4 3")

    def test_sights_that_are_none(self):
        desk = Desk()
        before = all_of(desk)
        for row in ("sight 0", "sight 3", "sight -1", "sight", "sight 1 2", "sight none", "sight 01", f"sight {10 ** 59}"):
            self.refused(desk, row)
        self.assertEqual(all_of(desk), before)

    def test_no_row_goes_ahead_of_no_table(self):
        # No table would be there, either, but none of these is a row.
        desk = Desk()
        for row in ("looks 3 3 3", "looks 3  3", "looks 3 3 ", " looks 3 3", "looks 03 3", "kind 8 4 4", "kind 8 +4"):
            self.refused(desk, row)


class TestCells(DeskTest):
    def test_each_cell(self):
        for kind, looks in (((2, 1), (1, 1)), ((4, 2), (4, 4))):
            desk = self.desk_with(kind, looks, 2)
            table = plain_table(kind, looks, 2)
            for cell in cells_reckoned(kind, looks):
                line, place = cell_places(kind, looks, cell)
                figure = table[line][place]
                self.assertEqual(desk.say(f"cell {cell[0]} {cell[1]}"), "none" if figure is None else str(figure))

    def test_each_cell_is_put(self):
        chance = random.Random(41)
        desk = Desk()
        table = plain_table((4, 2), (4, 4), 2)
        for cell in chance.sample(cells_reckoned((4, 2), (4, 4)), 200):
            figure = chance.choice([-2, -1, 0, 1, 2, None])
            word = "none" if figure is None else str(figure)
            self.assertEqual(desk.say(f"put {cell[0]} {cell[1]} {word}"), "ok")
            self.assertEqual(desk.say(f"cell {cell[0]} {cell[1]}"), word)
            table = with_entry((4, 2), (4, 4), table, cell, figure)
            self.assertEqual(desk.say(f"show {cell[0]}"), shown(table)[cell[0] - 8])
        self.assertEqual([desk.say(f"show {top}") for top in range(8, 16)], shown(table))

    def test_cells_at_their_bounds(self):
        desk = Desk()
        for row in ("cell 8 -66", "cell 8 65", "cell 15 -66", "cell 15 65"):
            self.assertEqual(desk.say(row), "none")
            self.assertEqual(desk.say(row.replace("cell", "good")), "unmet")
            self.assertEqual(desk.say(row.replace("cell", "put") + " 2"), "ok")
            self.assertEqual(desk.say(row), "2")
        for cell in ("7 0", "16 0", "8 -67", "8 66", "15 -67", "15 66", "0 0", "-8 0", "8 none", "none 0", f"8 {10 ** 59}"):
            before = all_of(desk)
            for row in (f"cell {cell}", f"good {cell}", f"put {cell} 0", f"put {cell} none"):
                self.refused(desk, row)
            self.assertEqual(all_of(desk), before)

    def test_figures_at_their_bounds(self):
        for kind, looks in (((4, 2), (4, 4)), ((4, 3), (4, 4)), ((16, 12), (6, 4))):
            desk = self.desk_with(kind, looks, 2)
            top = tops_reckoned(looks)[0]
            for figure in figures_of(kind):
                self.assertEqual(desk.say(f"put {top} 5 {figure}"), "ok")
                self.assertEqual(desk.say(f"cell {top} 5"), str(figure))
            for figure in (kind[1] + 1, -kind[1] - 1, 10 ** 59, "None", "", ".", "-", "01", "-0", "+1", "1.0"):
                self.refused(desk, f"put {top} 5 {figure}")
                self.assertEqual(desk.say(f"cell {top} 5"), str(kind[1]))

    def test_good_figures(self):
        for kind, looks in (((2, 1), (1, 1)), ((4, 2), (4, 4)), ((4, 3), (3, 2)), ((8, 7), (4, 3))):
            for sight in (1, 2):
                desk = self.desk_with(kind, looks, sight)
                for cell in cells_reckoned(kind, looks):
                    expected = " ".join(str(figure) for figure in good_reckoned(kind, looks, sight, cell))
                    if not is_met_reckoned(kind, looks, sight, cell):
                        expected = "unmet"
                    self.assertEqual(desk.say(f"good {cell[0]} {cell[1]}"), expected)

    def test_what_is_put_changes_no_good_figures(self):
        desk = Desk()
        before = desk.say("good 8 3")
        desk.say("put 8 3 -2")
        self.assertEqual(desk.say("good 8 3"), before)

    def test_show(self):
        desk = Desk()
        for top in (7, 16, 0, -8, 10 ** 59):
            self.refused(desk, f"show {top}")
        for row in ("show", "show 8 9", "show none", "show 08", "show  8"):
            self.refused(desk, row)
        self.assertEqual(len(desk.say("show 8").split(" ")), 132)


class TestFaults(DeskTest):
    def test_fault_and_spoilt(self):
        chance = random.Random(42)
        for kind, looks in (((2, 1), (1, 1)), ((4, 2), (4, 4)), ((8, 7), (4, 3))):
            for sight in (1, 2):
                desk = self.desk_with(kind, looks, sight)
                table = plain_table(kind, looks, sight)
                for cell in chance.sample(cells_reckoned(kind, looks), 12):
                    figure = chance.choice(list(figures_of(kind)) + [None])
                    desk.say(f"put {cell[0]} {cell[1]} {'none' if figure is None else figure}")
                    table = with_entry(kind, looks, table, cell, figure)
                    self.assert_faults(desk, kind, looks, sight, table)

    def assert_faults(self, desk, kind, looks, sight, table):
        fault = first_fault(kind, looks, sight, table)
        self.assertEqual(desk.say("fault"), "none" if fault is None else f"{fault[0]} {fault[1]}")
        numbers = spoilt_by(kind, looks, table)
        told = desk.say("spoilt")
        self.assertEqual(told, "none" if numbers is None else f"{numbers[0]} {numbers[1]}")
        if numbers is not None:
            x, divisor = [int(word) for word in told.split(" ")]
            with self.assertRaises(Spoilt) as caught:
                divide(kind, looks, table, x, divisor, 1)
            self.assertEqual(caught.exception.step, 0)

    def test_spoilt_whatever_the_sight(self):
        # By sight 2 one look more is met than by sight 1; what is wrong there alone spoils no quotient of 23.
        desk = Desk()
        looks = [look for look in range(-66, 66) if is_met_reckoned((4, 2), (4, 4), 2, (8, look))]
        self.assertFalse(is_met_reckoned((4, 2), (4, 4), 1, (8, looks[0])))
        desk.say(f"put 8 {looks[0]} none")
        self.assertEqual(desk.say("fault"), f"8 {looks[0]}")
        self.assertEqual(desk.say("spoilt"), "none")
        desk.say("sight 1")
        desk.say("put 8 5 -2")
        one = desk.say("spoilt")
        other = Desk()
        other.say("put 8 5 -2")
        self.assertEqual((desk.say("fault"), other.say("fault")), ("8 5", "8 5"))
        self.assertNotEqual(one, "none")
        self.assertEqual(other.say("spoilt"), one)

    def test_no_more_words(self):
        desk = Desk()
        for word in ("fault", "spoilt", "least"):
            self.refused(desk, word + " 1")
            self.refused(desk, word + " none")
            self.refused(desk, word + " ")

    def test_least(self):
        for kind in ((2, 1), (4, 2), (4, 3), (8, 5), (8, 7), (16, 12), (16, 15)):
            for sight in (1, 2):
                try:
                    tops, parts = least_looks(kind, sight)[0]
                except NoLooks:
                    continue
                desk = self.desk_with(kind, (6, 4), sight)
                self.assertEqual(desk.say("least"), f"{tops} {parts}")


class TestDivide(DeskTest):
    def test_some_numbers(self):
        chance = random.Random(43)
        for kind, looks in (((2, 1), (1, 1)), ((4, 2), (4, 4)), ((16, 12), (6, 4))):
            desk = self.desk_with(kind, looks, 2)
            for turn in range(100):
                x = chance.randrange(-(10 ** chance.randrange(1, 61)) + 1, 10 ** chance.randrange(1, 61))
                divisor = chance.randrange(1, 10 ** chance.randrange(1, 61))
                self.assertEqual(desk.say(f"divide {x} {divisor}"), f"{x // divisor} {x % divisor}")

    def test_numbers_at_their_bounds(self):
        desk = Desk()
        great = 10 ** 60 - 1
        self.assertEqual(desk.say(f"divide {great} {great}"), "1 0")
        self.assertEqual(desk.say(f"divide {-great} 1"), f"{-great} 0")
        self.assertEqual(desk.say(f"divide {great} 1"), f"{great} 0")
        self.assertEqual(desk.say("divide 0 1"), "0 0")
        self.assertEqual(desk.say("divide -1 1"), "-1 0")
        for row in (
            f"divide {10 ** 60} 1", f"divide {-(10 ** 60)} 1", f"divide 1 {10 ** 60}", "divide 1 0", "divide 1 -1",
            f"divide 1 {-great}", "divide 0 0", "divide -0 1", "divide 01 1", "divide 1 01", "divide +1 1", "divide 1 +1",
            "divide 1", "divide", "divide 1 1 1", "divide none 1", "divide 1 none", "divide 00 1", "divide -01 1",
            f"divide {'0' * 60} 1", f"divide {'0' * 59}1 1",
        ):
            self.refused(desk, row)

    def test_spoilt(self):
        chance = random.Random(44)
        steps = set()
        for turn in range(40):
            desk = Desk()
            table = plain_table((4, 2), (4, 4), 2)
            for cell in chance.sample(cells_reckoned((4, 2), (4, 4)), 200):
                figure = chance.choice([-2, 0, 2, None])
                desk.say(f"put {cell[0]} {cell[1]} {'none' if figure is None else figure}")
                table = with_entry((4, 2), (4, 4), table, cell, figure)
            for x, divisor in ((10 ** 20, 7), (-(10 ** 30), 12345), (99, 10 ** 6), (1, 3), (12345, 67)):
                try:
                    expected = "{} {}".format(*quotient((4, 2), (4, 4), table, x, divisor))
                except Spoilt as refused:
                    expected = f"spoilt {refused.step}"
                    steps.add(refused.step)
                self.assertEqual(desk.say(f"divide {x} {divisor}"), expected)
        self.assertGreater(len(steps), 3)


class TestRows(DeskTest):
    def test_things_that_are_no_text(self):
        desk = Desk()
        before = all_of(desk)
        things = NO_NUMBERS + [None, 0, 1, -1, b"fault", ["fault"], ("fault",), {"fault": 1}, ["kind", "4", "2"]]
        for thing in things:
            self.refused(desk, thing)
        self.assertEqual(all_of(desk), before)

    def test_other_words(self):
        desk = Desk()
        for row in (
            "", " ", "  ", "\n", "x", "Fault", "FAULT", "faults", "faul", "fault.", "kinds 4 2", "Kind 4 2", "none", "ok", "4",
            "4 2", "goods 8 3", "quotient 8 3", "fault\n", "\tfault", "cell\t8 12", "cell 8\n12", "cell 8\u00a012",
            "cell 8\u200312", "divide \u0661\u0662 3", "divide 1\u00b2 3", "divide \uff11 3", "divide 1_0 3", "divide 1e3 3",
            "divide 0x1 3", "divide 1.0 3", "divide --1 3", "divide - 3", "divide 1- 3", "divide \u22121 3",
        ):
            self.refused(desk, row)

    def test_rows_changed_a_little(self):
        rows = {"sight 2", "least", "fault", "spoilt"}
        for row in ROWS:
            for changed in [*end_mutants(row), *word_mutants(row), *sign_mutants(row, " \n-+0127x")]:
                desk = Desk()
                answer = asked(desk, changed)
                words = changed.split(" ")
                if answer is NoRow:
                    self.assertEqual(desk.say("show 8"), Desk().say("show 8"))
                    self.assertNotIn(changed, rows)
                else:
                    self.assertIn(words[0], [known.split(" ")[0] for known in ROWS])
                    numbers = [word for word in words[1:] if word != "none"]
                    self.assertTrue(all(word == str(int(word)) and len(word) <= 61 for word in numbers), changed)

    def test_a_strange_word_for_each_number(self):
        for row in ROWS:
            words = row.split(" ")
            for place in range(1, len(words)):
                for strange in STRANGE_WORDS:
                    changed = words[:place] + [strange] + words[place + 1:]
                    if words[0] == "put" and place == 3 and strange == "none":
                        continue
                    if words[0] == "divide" and strange in ("1" * 60, "-" + "1" * 60) and (place == 1 or strange[0] == "1"):
                        continue
                    self.refused(Desk(), " ".join(changed))

    def test_two_desks_side_by_side(self):
        one, other = Desk(), Desk()
        before = all_of(other)
        one.say("put 8 0 2")
        one.say("put 9 0 none")
        self.assertEqual(all_of(other), before)
        one.say("kind 4 3")
        self.assertEqual(all_of(other), before)
        other.say("put 8 1 -2")
        self.assertEqual(one.say("show 8"), shown(plain_table((4, 3), (4, 4), 2))[0])

    def test_asked_twice_the_same(self):
        desk = Desk()
        for row in ROWS[3:4] + ROWS[6:]:
            self.assertEqual(desk.say(row), desk.say(row))

    def test_each_row_within_a_moment(self):
        # In a process of its own, so that an answer that never comes fails, too.
        script = (
            "from slackfigures.desk import Desk\n"
            "desk = Desk()\n"
            "for row in ('looks 6 4', 'kind 16 14', 'fault', 'spoilt', 'least', 'sight 1', 'least', 'show 63', 'good 63 5',\n"
            "            'put 63 5 none', 'cell 63 5', 'fault', 'spoilt', 'divide ' + '9' * 60 + ' 1'):\n"
            "    for turn in range(5):\n"
            "        desk.say(row)\n"
        )
        subprocess.run([sys.executable, "-c", script], cwd=TOP, check=True, timeout=60)


if __name__ == "__main__":
    unittest.main()
