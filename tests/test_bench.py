import random
import subprocess
import sys
import unittest
from copy import deepcopy
from pathlib import Path

from slackfigures.bench import Bench, replayed
from slackfigures.errors import NoCell, NoDeed, NoRoom, NoWork, SlackError, Spoilt
from slackfigures.quotients import divide
from slackfigures.tables import plain_table
from slackfigures.tworows import divide_rows, trail
from tests.common import (
    BITS, NO_NUMBERS, cell_places, cells_reckoned, copy_reckoned, figures_of, filled_table, good_reckoned,
    half_reckoned, has_room_reckoned, is_met_reckoned, next_pair_reckoned, room_reckoned, scaled_reckoned,
    serves_reckoned, signed, with_entry,
)
from tests.divisions import BOTH_SIGHTS, some_pairs, wrong_tables

TOP = Path(__file__).resolve().parent.parent

SOME = [((2, 1), (1, 1)), ((4, 2), (4, 4)), ((4, 3), (3, 2)), ((8, 7), (4, 3)), ((16, 15), (5, 4))]
NO_WORKS = [-1, -2, -(10 ** 59), 10 ** 59, 1000]


class Known:
    """A bench reckoned apart: each work is x, the divisor, its figures, and its pair, if it has one."""

    def __init__(self, kind, looks, table):
        self.kind, self.looks, self.table = kind, looks, copy_reckoned(table)
        self.works, self.times, self.deeds = [], {}, []

    def begin(self, word, x, divisor, many):
        wide, scaled, rest = scaled_reckoned(self.kind, self.looks, x, divisor, many)
        width = wide + BITS[self.kind[0]] + 2
        pair = (rest % 2 ** width, 0) if word == "rows" else None
        self.works.append({
            "x": x, "divisor": divisor, "many": many, "wide": wide, "scaled": scaled, "rest": rest, "pair": pair,
            "width": width, "row": [],
        })
        self.deeds.append((word, x, divisor, many))
        return len(self.works) - 1

    def taken(self, work):
        """The pair taken times the base, the look, and the rest that is looked at."""
        base, low = self.kind[0], 2 ** (work["wide"] - self.looks[1])
        rest = base * work["rest"]
        if work["pair"] is None:
            return None, rest // low
        one, other = [base * number % 2 ** work["width"] for number in work["pair"]]
        assert signed(one + other, work["width"]) == rest
        return (one, other), signed(one // low + other // low, work["width"] - work["wide"] + self.looks[1])

    def go(self, number):
        work = self.works[number]
        if len(work["row"]) == work["many"]:
            return ("done",)
        pair, look = self.taken(work)
        top = work["scaled"] // 2 ** (work["wide"] - self.looks[0])
        self.times[top, look] = self.times.get((top, look), 0) + 1
        self.deeds.append(("step", number))
        line, place = cell_places(self.kind, self.looks, (top, look))
        figure = self.table[line][place]
        point = (work["wide"], work["scaled"], self.kind[0] * work["rest"])
        if figure is None or not serves_reckoned(self.kind, figure, point):
            return "spoilt", top, look
        work["rest"] = point[2] - figure * work["scaled"]
        work["row"].append(figure)
        if pair is not None:
            less = -figure * work["scaled"] % 2 ** work["width"]
            work["pair"] = next_pair_reckoned(work["width"], *pair, less)
        return "figure", figure

    def put(self, top, look, figure):
        line, place = cell_places(self.kind, self.looks, (top, look))
        old, self.table[line][place] = self.table[line][place], figure
        self.deeds.append(("put", top, look, figure))
        return old

    def rest(self, number):
        work = self.works[number]
        left = work["many"] - len(work["row"])
        worth = 0
        for figure in work["row"]:
            worth = worth * self.kind[0] + figure
        return work["x"] - worth * self.kind[0] ** left * work["divisor"], left


def seen_of(bench):
    """All that is told of a bench, copied, so that it stays even where the bench tells its own lists."""
    works = []
    while True:
        try:
            works.append((bench.row(len(works)), bench.rest(len(works))))
        except NoWork:
            told = works, bench.looked(), bench.wrong(1), bench.wrong(2), bench.entries(), bench.deeds()
            return deepcopy(told)


def finished(bench, number):
    """Goes on until the work is done, or spoilt."""
    while True:
        told = bench.go(number)
        if told[0] != "figure":
            return told


def acted(bench, known, chance, pairs):
    """Does any one thing on both, and tells what each one answers."""
    kind, looks = known.kind, known.looks
    deed = chance.randrange(12)
    if deed == 0 or not known.works:
        x, divisor = chance.choice(pairs)
        many = room_reckoned(kind, x, divisor) + chance.randrange(4)
        word = chance.choice(["begin", "rows"])
        asked = bench.begin if word == "begin" else bench.begin_rows
        return asked(x, divisor, many), known.begin(word, x, divisor, many)
    number = chance.randrange(len(known.works))
    if deed == 1:
        top, look = chance.choice(cells_reckoned(kind, looks))
    elif deed == 2:
        # Where a work looks next, so that the table's changes are seen.
        work = known.works[number]
        top, look = work["scaled"] // 2 ** (work["wide"] - looks[0]), known.taken(work)[1]
    else:
        return bench.go(number), known.go(number)
    figure = chance.choice(list(figures_of(kind)) + [None])
    return bench.put(top, look, figure), known.put(top, look, figure)


class BenchTest(unittest.TestCase):
    def refused(self, refusal, asked, *things):
        with self.assertRaises(refusal) as caught:
            asked(*things)
        self.assertIs(type(caught.exception), refusal)
        return caught.exception

    def assert_alike(self, bench, known):
        for number, work in enumerate(known.works):
            self.assertEqual(bench.row(number), work["row"])
            self.assertEqual(bench.rest(number), known.rest(number))
        self.assertEqual(bench.looked(), sorted(known.times.items()))
        self.assertEqual(bench.entries(), known.table)
        self.assertEqual(bench.deeds(), known.deeds)


class TestWorks(BenchTest):
    def test_each_work_comes_out_as_it_is_divided(self):
        for kind, looks in BOTH_SIGHTS:
            for table in [plain_table(kind, looks, 2)] + wrong_tables(kind, looks, 2)[2:]:
                bench = Bench(kind, looks, table)
                for x, divisor in some_pairs(kind, 6):
                    many = room_reckoned(kind, x, divisor) + 2
                    self.assert_work(bench, bench.begin(x, divisor, many), divide, kind, looks, table, x, divisor, many)
                    number = bench.begin_rows(x, divisor, many)
                    self.assert_work(bench, number, divide_rows, kind, looks, table, x, divisor, many)

    def assert_work(self, bench, number, way, kind, looks, table, x, divisor, many):
        told = finished(bench, number)
        try:
            row, rest = way(kind, looks, table, x, divisor, many)
        except Spoilt as refused:
            self.assertEqual(told[0], "spoilt")
            self.assertEqual(len(bench.row(number)), refused.step)
            self.assertEqual(bench.go(number), told)
            return
        self.assertEqual(told, ("done",))
        self.assertEqual(bench.row(number), row)
        self.assertEqual(bench.rest(number), (rest, 0))
        self.assertEqual(bench.go(number), ("done",))

    def test_steps_by_the_trail(self):
        kind, looks = (4, 2), (4, 4)
        table = plain_table(kind, looks, 2)
        for x, divisor in some_pairs(kind, 30):
            many = room_reckoned(kind, x, divisor) + 3
            bench = Bench(kind, looks, table)
            self.assertEqual(bench.begin_rows(x, divisor, many), 0)
            top = scaled_reckoned(kind, looks, x, divisor, many)
            top = top[1] // 2 ** (top[0] - 4)
            times = {}
            for first, second, look, figure in trail(kind, looks, table, x, divisor, many):
                times[top, look] = times.get((top, look), 0) + 1
                self.assertEqual(bench.go(0), ("figure", figure))
                self.assertEqual(bench.looked(), sorted(times.items()))
            self.assertEqual(bench.go(0), ("done",))
            self.assertEqual(bench.looked(), sorted(times.items()))

    def test_several_by_turns(self):
        chance = random.Random(71)
        for kind, looks in SOME:
            pairs = some_pairs(kind, 10)
            for table in [plain_table(kind, looks, 2)] + wrong_tables(kind, looks, 2):
                copy = copy_reckoned(table)
                bench, known = Bench(kind, looks, table), Known(kind, looks, table)
                for turn in range(250):
                    told, expected = acted(bench, known, chance, pairs)
                    self.assertEqual(told, expected)
                self.assert_alike(bench, known)
                self.assertEqual(table, copy)

    def test_row_and_rest_at_each_time(self):
        for kind, looks in SOME:
            bench = Bench(kind, looks, plain_table(kind, looks, 2))
            known = Known(kind, looks, plain_table(kind, looks, 2))
            pairs = some_pairs(kind, 3)
            for x, divisor in pairs:
                many = room_reckoned(kind, x, divisor) + 1
                for word, asked in (("begin", bench.begin), ("rows", bench.begin_rows)):
                    number = asked(x, divisor, many)
                    self.assertEqual(number, known.begin(word, x, divisor, many))
                    self.assertEqual((bench.row(number), bench.rest(number)), ([], (x, many)))
                    for step in range(many):
                        self.assertEqual(bench.go(number), known.go(number))
                        self.assertEqual(bench.rest(number), known.rest(number))
                        self.assertEqual(len(bench.row(number)), step + 1)
                    base, most = kind
                    rest, left = bench.rest(number)
                    self.assertEqual(left, 0)
                    self.assertLessEqual((base - 1) * abs(rest), most * divisor)

    def test_room(self):
        for kind, looks in SOME:
            base, most = kind
            bench = Bench(kind, looks, plain_table(kind, looks, 2))
            before = seen_of(bench)
            for divisor in (1, 3, 105, 10 ** 59 + 3, 10 ** 199):
                for many in (0, 1, 2, 9):
                    edge = most * divisor * base ** many // (base - 1)
                    for x in (edge + 1, -edge - 1, 10 * edge + 10):
                        self.assertFalse(has_room_reckoned(kind, x, divisor, many))
                        self.refused(NoRoom, bench.begin, x, divisor, many)
                        self.refused(NoRoom, bench.begin_rows, x, divisor, many)
            self.assertEqual(seen_of(bench), before)
            self.assertEqual(bench.begin(edge, divisor, many), 0)
            self.assertEqual(bench.begin_rows(-edge, divisor, many), 1)
            self.refused(NoRoom, bench.begin, edge + 1, divisor, many)
            self.assertEqual(bench.begin(0, 1, 0), 2)

    def test_no_figures(self):
        for kind, looks in SOME:
            bench = Bench(kind, looks, filled_table(kind, looks, lambda cell: None))
            self.assertEqual((bench.begin(0, 7, 0), bench.begin_rows(0, 7, 0)), (0, 1))
            for number in (0, 1):
                for turn in range(2):
                    self.assertEqual(bench.go(number), ("done",))
                self.assertEqual((bench.row(number), bench.rest(number)), ([], (0, 0)))
            self.assertEqual(bench.looked(), [])
            self.assertEqual(bench.deeds(), [("begin", 0, 7, 0), ("rows", 0, 7, 0)])

    def test_250_figures(self):
        kind, looks = (4, 2), (4, 4)
        table = plain_table(kind, looks, 2)
        bench = Bench(kind, looks, table)
        for x, divisor in ((10 ** 60, 10 ** 59 + 1), (-(10 ** 140), 3), (1 - 10 ** 200, 10 ** 130)):
            for asked, way in ((bench.begin, divide), (bench.begin_rows, divide_rows)):
                number = asked(x, divisor, 250)
                self.assertEqual(finished(bench, number), ("done",))
                self.assertEqual((bench.row(number), bench.rest(number)[0]), way(kind, looks, table, x, divisor, 250))

    def test_spoilt_and_gone_on_with(self):
        for kind, looks in SOME:
            for asked in ("begin", "begin_rows"):
                bench = Bench(kind, looks, filled_table(kind, looks, lambda cell: None))
                good = plain_table(kind, looks, 2)
                number = getattr(bench, asked)(1000, 7, room_reckoned(kind, 1000, 7) + 2)
                looks_at = {}
                while bench.rest(number)[1]:
                    told = bench.go(number)
                    if told[0] == "spoilt":
                        before = (bench.row(number), bench.rest(number))
                        for turn in range(2):
                            self.assertEqual(bench.go(number), told)
                        self.assertEqual((bench.row(number), bench.rest(number)), before)
                        cell = told[1:]
                        looks_at[cell] = looks_at.get(cell, 0) + 3
                        line, place = cell_places(kind, looks, cell)
                        self.assertIsNone(bench.put(cell[0], cell[1], good[line][place]))
                        self.assertEqual(bench.go(number), ("figure", good[line][place]))
                        looks_at[cell] += 1
                        # Put back, so that each step is spoilt first.
                        self.assertEqual(bench.put(cell[0], cell[1], None), good[line][place])
                self.assertEqual(bench.go(number), ("done",))
                self.assertEqual(bench.looked(), sorted(looks_at.items()))
                way = divide if asked == "begin" else divide_rows
                self.assertEqual(bench.row(number), way(kind, looks, good, 1000, 7, len(bench.row(number)))[0])

    def test_a_figure_that_does_not_serve_is_spoilt_too(self):
        bench = Bench((4, 2), (4, 4), filled_table((4, 2), (4, 4), lambda cell: -2))
        bench.begin(1000, 7, 4)
        told = bench.go(0)
        self.assertEqual(told[0], "spoilt")
        self.assertEqual(bench.put(told[1], told[2], 2), -2)
        self.assertEqual(bench.go(0), ("figure", 2))


class TestTable(BenchTest):
    def test_put_and_entries(self):
        chance = random.Random(72)
        for kind, looks in SOME:
            table = plain_table(kind, looks, 2)
            bench = Bench(kind, looks, table)
            for cell in chance.choices(cells_reckoned(kind, looks), k=100):
                figure = chance.choice(list(figures_of(kind)) + [None])
                line, place = cell_places(kind, looks, cell)
                self.assertEqual(bench.put(cell[0], cell[1], figure), table[line][place])
                table = with_entry(kind, looks, table, cell, figure)
                self.assertEqual(bench.entries(), table)

    def test_the_table_handed_in_stays_and_is_not_kept(self):
        kind, looks = (4, 2), (4, 4)
        table = plain_table(kind, looks, 2)
        copy = copy_reckoned(table)
        bench = Bench(kind, looks, table)
        bench.begin(1000, 7, 4)
        bench.put(8, 0, 2)
        self.assertEqual(table, copy)
        seen = seen_of(bench)
        for row in table:
            row[:] = [None] * len(row)
        table.clear()
        self.assertEqual(seen_of(bench), seen)
        self.assertEqual(finished(bench, 0), ("done",))

    def test_what_is_told_is_the_askers_own(self):
        kind, looks = (4, 2), (4, 4)
        bench = Bench(kind, looks, plain_table(kind, looks, 1))
        bench.begin(1000, 7, 4)
        bench.go(0)
        seen = seen_of(bench)
        for told in (bench.row(0), bench.looked(), bench.wrong(2), bench.deeds(), bench.entries(), bench.entries()[0]):
            self.assertIs(type(told), list)
            told[0] = 99
            told.clear()
        entries = bench.entries()
        for row in entries:
            row[0] = 2
        self.assertEqual(seen_of(bench), seen)
        lists = bench.entries() + bench.entries()
        self.assertEqual(len({id(row) for row in lists}), len(lists))

    def test_wrong(self):
        chance = random.Random(73)
        for kind, looks in SOME[:4]:
            known = {
                sight: {
                    cell: good_reckoned(kind, looks, sight, cell) for cell in cells_reckoned(kind, looks)
                    if is_met_reckoned(kind, looks, sight, cell)
                }
                for sight in (1, 2)
            }
            for table in [plain_table(kind, looks, sight) for sight in (1, 2)] + wrong_tables(kind, looks, 2):
                bench = Bench(kind, looks, table)
                for turn in range(5):
                    for sight in (1, 2):
                        self.assertEqual(bench.wrong(sight), [
                            cell for cell, good in known[sight].items()
                            if table[cell_places(kind, looks, cell)[0]][cell_places(kind, looks, cell)[1]] not in good
                        ])
                    cell = chance.choice(cells_reckoned(kind, looks))
                    figure = chance.choice(list(figures_of(kind)) + [None])
                    bench.put(cell[0], cell[1], figure)
                    table = with_entry(kind, looks, table, cell, figure)

    def test_wrong_where_there_is_no_table(self):
        bench = Bench((4, 2), (1, 0), filled_table((4, 2), (1, 0), lambda cell: 0))
        for sight in (1, 2):
            self.assertEqual(bench.wrong(sight), [
                cell for cell in cells_reckoned((4, 2), (1, 0))
                if is_met_reckoned((4, 2), (1, 0), sight, cell) and 0 not in good_reckoned((4, 2), (1, 0), sight, cell)
            ])


class TestRefusals(BenchTest):
    def test_no_work(self):
        bench = Bench((4, 2), (4, 4), plain_table((4, 2), (4, 4), 2))
        for works in range(3):
            before = seen_of(bench)
            for number in NO_WORKS + [works, works + 1]:
                for asked in (bench.go, bench.row, bench.rest):
                    self.refused(NoWork, asked, number)
            self.assertEqual(seen_of(bench), before)
            self.assertEqual(bench.begin(5, 3, 2), works)
            self.assertEqual(bench.rest(works), (5, 2))

    def test_no_cell(self):
        for kind, looks in SOME:
            bench = Bench(kind, looks, plain_table(kind, looks, 2))
            bench.begin(5, 3, 4)
            before = seen_of(bench)
            half, first = half_reckoned(kind, looks), 2 ** (looks[0] - 1)
            for top, look in (
                (first - 1, 0), (2 * first, 0), (0, 0), (-first, 0), (first, -half - 1), (first, half), (10 ** 59, 0),
                (2 * first - 1, half), (2 * first - 1, -half - 1), (first, 10 ** 59), (-(10 ** 59), -(10 ** 59)),
            ):
                for figure in (0, None, kind[1] + 1, "x"):
                    self.refused(NoCell, bench.put, top, look, figure)
            for figure in NO_NUMBERS + [kind[1] + 1, -kind[1] - 1, 10 ** 59]:
                self.refused(NoCell, bench.put, first, 0, figure)
            self.assertEqual(seen_of(bench), before)
            for top, look in ((first, -half), (first, half - 1), (2 * first - 1, -half), (2 * first - 1, half - 1)):
                self.assertIsNone(bench.put(top, look, kind[1]))
                self.assertEqual(bench.put(top, look, -kind[1]), kind[1])
                self.assertEqual(bench.put(top, look, None), -kind[1])

    def test_two_benches_side_by_side(self):
        table = plain_table((4, 2), (4, 4), 2)
        one, other = Bench((4, 2), (4, 4), table), Bench((4, 2), (4, 4), table)
        before = seen_of(other)
        one.begin(1000, 7, 5)
        one.go(0)
        one.put(8, 0, None)
        self.assertEqual(seen_of(other), before)
        other.begin_rows(-3, 7, 5)
        other.put(9, 0, 1)
        self.assertEqual(one.entries()[1], table[1])


class TestDeeds(BenchTest):
    def busy(self, kind, looks, table, chance, turns):
        bench, known = Bench(kind, looks, table), Known(kind, looks, table)
        pairs = [(x, divisor) for x, divisor in some_pairs(kind, 60) if abs(x) < 10 ** 60 and divisor < 10 ** 60]
        for turn in range(turns):
            acted(bench, known, chance, pairs)
        return bench, known

    def test_deeds_in_order(self):
        bench = Bench((4, 2), (4, 4), plain_table((4, 2), (4, 4), 2))
        self.assertEqual(bench.deeds(), [])
        bench.begin(5, 7, 1)
        bench.begin_rows(-6, 8, 1)
        for turn in range(3):
            bench.go(0)
        bench.put(8, 3, None)
        bench.put(8, 3, None)
        bench.go(1)
        with self.assertRaises(SlackError):
            bench.put(7, 3, None)
        with self.assertRaises(SlackError):
            bench.begin(100, 7, 1)
        with self.assertRaises(SlackError):
            bench.go(2)
        self.assertEqual(bench.deeds(), [
            ("begin", 5, 7, 1), ("rows", -6, 8, 1), ("step", 0), ("put", 8, 3, None), ("put", 8, 3, None), ("step", 1),
        ])

    def test_done_anew(self):
        chance = random.Random(74)
        for kind, looks in SOME:
            for table in [plain_table(kind, looks, 2)] + wrong_tables(kind, looks, 2)[1:4]:
                bench, known = self.busy(kind, looks, table, chance, 120)
                copy, deeds = copy_reckoned(table), bench.deeds()
                anew = replayed(kind, looks, table, deeds)
                self.assertIs(type(anew), Bench)
                self.assertEqual((table, deeds), (copy, bench.deeds()))
                self.assert_alike(anew, known)
                self.assertEqual(seen_of(anew), seen_of(bench))
                self.assert_goes_on_alike(bench, anew, known)

    def assert_goes_on_alike(self, bench, anew, known):
        before = seen_of(anew)
        told = [bench.go(number) for number in range(len(known.works))]
        bench.put(2 ** (known.looks[0] - 1), 0, None)
        self.assertEqual(seen_of(anew), before)
        self.assertEqual([anew.go(number) for number in range(len(known.works))], told)
        anew.put(2 ** (known.looks[0] - 1), 0, None)
        self.assertEqual(seen_of(anew), seen_of(bench))

    def test_of_no_deeds(self):
        table = plain_table((4, 2), (4, 4), 2)
        anew = replayed((4, 2), (4, 4), table, [])
        self.assertEqual(seen_of(anew), seen_of(Bench((4, 2), (4, 4), table)))

    def fault_of(self, kind, looks, table, deeds):
        """The number of the first deed that is refused or a step of a work that is done, or None."""
        known = Known(kind, looks, table)
        first = 2 ** (looks[0] - 1)
        for number, deed in enumerate(deeds):
            word, *things = deed
            if word == "step":
                if not 0 <= things[0] < len(known.works) or known.go(things[0]) == ("done",):
                    return number
            elif word == "put":
                top, look, figure = things
                half = half_reckoned(kind, looks)
                is_figure = type(figure) is int and figure in figures_of(kind)
                if not (first <= top < 2 * first and -half <= look < half and (figure is None or is_figure)):
                    return number
                known.put(top, look, figure)
            else:
                if not has_room_reckoned(kind, *things):
                    return number
                known.begin(word, *things)
        return None

    def assert_replayed(self, kind, looks, table, deeds):
        copy, before = list(deeds), copy_reckoned(table)
        fault = self.fault_of(kind, looks, table, deeds)
        if fault is None:
            self.assertEqual(replayed(kind, looks, table, deeds).deeds(), deeds)
        else:
            self.assertEqual(self.refused(NoDeed, replayed, kind, looks, table, deeds).number, fault)
        self.assertEqual((deeds, table), (copy, before))
        return fault

    def test_deeds_changed(self):
        chance = random.Random(75)
        refused = 0
        for kind, looks in SOME[:4]:
            table = wrong_tables(kind, looks, 2)[-1]
            bench, known = self.busy(kind, looks, table, chance, 60)
            deeds = bench.deeds()
            for at in range(len(deeds)):
                changes = [deeds[:at] + deeds[at + 1:], deeds[:at + 1] + deeds[at:]]
                changes.append(deeds[:at] + deeds[at + 1:at + 2] + deeds[at:at + 1] + deeds[at + 2:])
                for place in range(1, len(deeds[at])):
                    for thing in (-1, 0, 1, 7, 250, 10 ** 59):
                        if deeds[at][0] in ("begin", "rows") and (place == 2 and thing < 1 or place == 3 and thing > 250):
                            continue
                        if deeds[at][0] in ("begin", "rows") and place == 3 and thing < 0:
                            continue
                        deed = deeds[at][:place] + (thing,) + deeds[at][place + 1:]
                        changes.append(deeds[:at] + [deed] + deeds[at + 1:])
                for changed in changes:
                    refused += self.assert_replayed(kind, looks, table, changed) is not None
        self.assertGreater(refused, 200)

    def test_refused_deeds(self):
        kind, looks = (4, 2), (4, 4)
        table = plain_table(kind, looks, 2)
        good = [("begin", 5, 7, 1), ("rows", 5, 7, 1), ("step", 0), ("put", 8, 0, 1)]
        for bad in [
            ("step", 0), ("step", 2), ("step", -1), ("step", 10 ** 59), ("begin", 100, 7, 1), ("rows", -100, 7, 1),
            ("begin", 10 ** 59, 1, 0), ("put", 7, 0, 0), ("put", 16, 0, 0), ("put", 8, 66, 0), ("put", 8, -67, None),
        ] + [("put", 8, 0, thing) for thing in NO_NUMBERS + [3, -3, 10 ** 59]]:
            for more in ([], [("step", 1)], [("step", 77)]):
                refusal = self.refused(NoDeed, replayed, kind, looks, table, good + [bad] + more)
                self.assertEqual(refusal.number, 4)
            self.assertEqual(self.refused(NoDeed, replayed, kind, looks, table, [bad] + good).number, 0)
        self.assertEqual(table, plain_table(kind, looks, 2))

    def test_a_step_of_a_work_that_is_done(self):
        kind, looks = (4, 2), (4, 4)
        table = plain_table(kind, looks, 2)
        refusal = self.refused(NoDeed, replayed, kind, looks, table, [("begin", 0, 7, 0), ("step", 0)])
        self.assertEqual(refusal.number, 1)
        # By another table it is spoilt, which is a deed, however often.
        none = filled_table(kind, looks, lambda cell: None)
        deeds = [("begin", 5, 7, 1), ("step", 0), ("step", 0)]
        self.assertEqual(replayed(kind, looks, none, deeds).deeds(), deeds)
        self.assertEqual(self.refused(NoDeed, replayed, kind, looks, table, deeds).number, 2)

    def test_within_a_moment(self):
        # In a process of its own, so that an answer that never comes fails, too.
        script = (
            "from slackfigures.bench import Bench, replayed\n"
            "from slackfigures.tables import plain_table\n"
            "table = plain_table((16, 14), (6, 4), 2)\n"
            "bench = Bench((16, 14), (6, 4), table)\n"
            "for turn in range(5):\n"
            "    bench.begin(10 ** 200 - turn, 7, 250)\n"
            "    bench.begin_rows(-(10 ** 200) + turn, 10 ** 100, 250)\n"
            "for step in range(200):\n"
            "    for number in range(10):\n"
            "        bench.go(number)\n"
            "        bench.rest(number)\n"
            "    bench.looked(), bench.row(3)\n"
            "for turn in range(20):\n"
            "    bench.wrong(1), bench.wrong(2), bench.entries(), bench.deeds()\n"
            "assert replayed((16, 14), (6, 4), table, bench.deeds()).looked() == bench.looked()\n"
        )
        subprocess.run([sys.executable, "-c", script], cwd=TOP, check=True, timeout=60)


if __name__ == "__main__":
    unittest.main()
