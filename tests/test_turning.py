import itertools
import random
import unittest

from slackfigures.errors import NoFigure, SlackError
from slackfigures.turning import Turner, held_worth
from tests.common import BASES, NO_NUMBERS, is_whole


def worth_by_places(base, row):
    return sum(figure * base ** place for place, figure in enumerate(reversed(row)))


def held_by_places(base, held):
    debt, digits = held
    return worth_by_places(base, digits) - debt * base ** len(digits)


class TestHeldWorth(unittest.TestCase):
    def test_no_digits(self):
        for base in BASES:
            self.assertEqual(held_worth(base, (0, [])), 0)
            self.assertEqual(held_worth(base, (1, [])), -1)

    def test_written_out(self):
        self.assertEqual(held_worth(4, (0, [1, 2, 3])), 27)
        self.assertEqual(held_worth(4, (1, [1, 2, 3])), -37)
        self.assertEqual(held_worth(2, (1, [1])), -1)
        self.assertEqual(held_worth(16, (1, [0, 0])), -256)
        self.assertEqual(held_worth(8, (0, [0, 7])), 7)

    def test_all_short_ones(self):
        for base in BASES:
            for length in (1, 2):
                for digits in itertools.product(range(base), repeat=length):
                    for debt in (0, 1):
                        held = (debt, list(digits))
                        self.assertEqual(held_worth(base, held), held_by_places(base, held))

    def test_250_digits(self):
        for base in BASES:
            for debt in (0, 1):
                self.assertEqual(held_worth(base, (debt, [0] * 250)), -debt * base ** 250)
                self.assertEqual(held_worth(base, (debt, [base - 1] * 250)), (1 - debt) * base ** 250 - 1)
                held = (debt, [(7 * place + place // 3) % base for place in range(250)])
                self.assertEqual(held_worth(base, held), held_by_places(base, held))

    def test_a_whole_number_and_nothing_changed(self):
        for base in BASES:
            digits = [1, 0, base - 1]
            held = (1, digits)
            first = held_worth(base, held)
            self.assertTrue(is_whole(first))
            self.assertEqual(digits, [1, 0, base - 1])
            digits.append(1)
            self.assertEqual(held_worth(base, held), first * base + 1)
            self.assertEqual(held_worth(base, (1, [1, 0, base - 1])), first)


class TestTurner(unittest.TestCase):
    def assert_held_row(self, base, held):
        self.assertIsInstance(held, tuple)
        debt, digits = held
        self.assertTrue(is_whole(debt) and debt in (0, 1))
        self.assertIsInstance(digits, list)
        self.assertTrue(all(is_whole(digit) and 0 <= digit < base for digit in digits))

    def assert_one_digit_behind(self, held, olds):
        debt, digits = held
        self.assertIn((debt, digits[:-1]), olds)

    def assert_turned(self, base, row):
        """Puts the row, and looks behind every figure."""
        turner = Turner(base)
        total = 0
        olds = [(0, []), (1, [])]
        self.assertEqual([turner.held(), turner.below()], olds)
        for many, figure in enumerate(row, 1):
            self.assertIsNone(turner.put(figure))
            total = total * base + figure
            held, below = turner.held(), turner.below()
            for told, worth in ((held, total), (below, total - 1)):
                self.assert_held_row(base, told)
                self.assertEqual(len(told[1]), many)
                self.assertEqual(held_by_places(base, told), worth)
                self.assertEqual(held_worth(base, told), worth)
                self.assert_one_digit_behind(told, olds)
            olds = [held, below]

    def test_at_the_start(self):
        for base in BASES:
            turner = Turner(base)
            self.assertEqual(turner.held(), (0, []))
            self.assertEqual(turner.below(), (1, []))

    def test_one_figure_as_told(self):
        for base in BASES:
            for figure in range(1 - base, base):
                turner = Turner(base)
                turner.put(figure)
                held = (0, [figure]) if figure >= 0 else (1, [base + figure])
                below = (0, [figure - 1]) if figure > 0 else (1, [base + figure - 1])
                self.assertEqual((turner.held(), turner.below()), (held, below))

    def test_written_out(self):
        turner = Turner(4)
        for figure in (1, -2, 0, 2):
            turner.put(figure)
        self.assertEqual(turner.held(), (0, [0, 2, 0, 2]))
        self.assertEqual(turner.below(), (0, [0, 2, 0, 1]))
        turner.put(-3)
        self.assertEqual(turner.held(), (0, [0, 2, 0, 1, 1]))
        self.assertEqual(turner.below(), (0, [0, 2, 0, 1, 0]))

    def test_all_short_rows(self):
        for base, length in ((2, 6), (4, 4), (8, 2), (16, 2)):
            for row in itertools.product(range(1 - base, base), repeat=length):
                self.assert_turned(base, row)

    def test_250_figures(self):
        chance = random.Random(7)
        for base in BASES:
            self.assert_turned(base, [base - 1] * 250)
            self.assert_turned(base, [1 - base] * 250)
            self.assert_turned(base, [(base - 1) * (-1) ** place for place in range(250)])
            self.assert_turned(base, [0] * 250)
            self.assert_turned(base, [1] + [0] * 249)
            self.assert_turned(base, [-1] + [0] * 249)
            self.assert_turned(base, [chance.randrange(0, base) for place in range(250)])
            self.assert_turned(base, [chance.randrange(1 - base, 1) for place in range(250)])
            self.assert_turned(base, [chance.randrange(1 - base, base) for place in range(250)])

    def test_told_lists_are_the_askers_own(self):
        for base in BASES:
            turner = Turner(base)
            for figure in (None, 1, -1, 0, base - 1, 1 - base):
                if figure is not None:
                    turner.put(figure)
                told = [turner.held(), turner.below(), turner.held(), turner.below()]
                lists = [digits for debt, digits in told]
                self.assertEqual(len({id(digits) for digits in lists}), 4)
                held, below = (told[0][0], list(lists[0])), (told[1][0], list(lists[1]))
                for digits in lists[:2]:
                    digits.append(99)
                    digits[0] = 77
                self.assertEqual(told[2:], [held, below])
                self.assertEqual((turner.held(), turner.below()), (held, below))

    def test_told_lists_stay_when_more_is_put(self):
        turner = Turner(8)
        turner.put(3)
        held, below = turner.held(), turner.below()
        for figure in (0, -5, 7):
            turner.put(figure)
        self.assertEqual((held, below), ((0, [3]), (0, [2])))

    def test_no_figure_changes_nothing(self):
        for base in BASES:
            turner = Turner(base)
            wrong = NO_NUMBERS + [None, base, -base, base + 1, -base - 1, 10 ** 59, -(10 ** 59), 2 * base, 3 ** 500]
            for figure in (None, 1, -1, 0, base - 1, 1 - base, -1):
                if figure is not None:
                    turner.put(figure)
                held, below = turner.held(), turner.below()
                for thing in wrong:
                    with self.assertRaises(NoFigure):
                        turner.put(thing)
                    self.assertEqual((turner.held(), turner.below()), (held, below), thing)

    def test_no_figure_is_a_slack_error(self):
        with self.assertRaises(SlackError) as caught:
            Turner(2).put(2)
        self.assertIs(type(caught.exception), NoFigure)

    def test_a_refused_thing_stays_as_it_was(self):
        thing = [1]
        with self.assertRaises(NoFigure):
            Turner(4).put(thing)
        self.assertEqual(thing, [1])

    def test_two_side_by_side(self):
        one, other = Turner(4), Turner(4)
        third = Turner(16)
        for place in range(40):
            one.put(place % 7 - 3)
            other.put(3 - place % 4)
            third.put(place % 31 - 15)
        for turner, base, row in (
            (one, 4, [place % 7 - 3 for place in range(40)]),
            (other, 4, [3 - place % 4 for place in range(40)]),
            (third, 16, [place % 31 - 15 for place in range(40)]),
        ):
            alone = Turner(base)
            for figure in row:
                alone.put(figure)
            self.assertEqual((turner.held(), turner.below()), (alone.held(), alone.below()))
            self.assertEqual(held_by_places(base, turner.held()), worth_by_places(base, row))


if __name__ == "__main__":
    unittest.main()
