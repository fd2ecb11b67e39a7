import itertools
import random
import unittest

from slackfigures.pairs import look_of, pair_worth, three_in_two
from tests.common import is_whole

GREAT_WIDTHS = (64, 100, 333, 2000)


def worth_by_search(width, total):
    """The one number within the bounds that differs from the total by a multiple."""
    fitting = [
        number for number in range(-(2 ** (width - 1)), 2 ** (width - 1)) if (number - total) % 2 ** width == 0
    ]
    assert len(fitting) == 1
    return fitting[0]


def bit(number, place):
    return number // 2 ** place % 2


def three_by_bits(width, three):
    """The three in two, reckoned bit by bit."""
    single = doubled = 0
    for place in range(width):
        many = sum(bit(number, place) for number in three)
        single += (many % 2) * 2 ** place
        doubled += (many // 2) * 2 ** (place + 1)
    return single, doubled % 2 ** width


def numbers_of(width, chance):
    """Nought, the greatest, single bits and others."""
    end = 2 ** width - 1
    places = sorted({0, 1 % width, width // 2, width - 1})
    some = [0, 1, end, end - 1, end // 2, end // 2 + 1, end // 3] + [2 ** place for place in places]
    return sorted({number for number in some if 0 <= number <= end} | {chance.randrange(end + 1) for turn in range(4)})


class TestPairWorth(unittest.TestCase):
    def test_all_of_small_widths(self):
        for width in (1, 2, 3, 5):
            for pair in itertools.product(range(2 ** width), repeat=2):
                self.assertEqual(pair_worth(width, pair), worth_by_search(width, sum(pair)))

    def test_width_1(self):
        self.assertEqual([pair_worth(1, pair) for pair in ((0, 0), (0, 1), (1, 0), (1, 1))], [0, -1, -1, 0])

    def test_great_widths(self):
        chance = random.Random(3)
        for width in GREAT_WIDTHS:
            half = 2 ** (width - 1)
            for one, other in itertools.product(numbers_of(width, chance), repeat=2):
                told = pair_worth(width, (one, other))
                self.assertTrue(is_whole(told))
                self.assertTrue(-half <= told <= half - 1)
                self.assertEqual((one + other - told) % 2 ** width, 0)

    def test_at_the_bounds(self):
        for width in (1, 2, 7) + GREAT_WIDTHS:
            half = 2 ** (width - 1)
            self.assertEqual(pair_worth(width, (half - 1, 0)), half - 1)
            self.assertEqual(pair_worth(width, (0, half)), -half)
            self.assertEqual(pair_worth(width, (half - 1, 1)), -half)
            self.assertEqual(pair_worth(width, (half, half)), 0)
            self.assertEqual(pair_worth(width, (2 * half - 1, 2 * half - 1)), -2 if width > 1 else 0)
            self.assertEqual(pair_worth(width, (2 * half - 1, 1)), 0)


class TestLookOf(unittest.TestCase):
    def test_all_of_small_widths(self):
        for width in (1, 2, 3, 4, 5):
            for one, other in itertools.product(range(2 ** width), repeat=2):
                for low in range(width):
                    total = one // 2 ** low + other // 2 ** low
                    self.assertEqual(look_of(width, (one, other), low), worth_by_search(width - low, total))

    def test_low_0_is_the_worth(self):
        chance = random.Random(4)
        for width in (1, 2) + GREAT_WIDTHS:
            for pair in itertools.product(numbers_of(width, chance), repeat=2):
                self.assertEqual(look_of(width, pair, 0), pair_worth(width, pair))

    def test_low_one_less_than_the_width(self):
        for width in (1, 2, 9) + GREAT_WIDTHS:
            high = 2 ** (width - 1)
            for one in (0, high - 1, high, 2 * high - 1):
                for other in (0, high - 1, high, 2 * high - 1):
                    expected = 0 if (one >= high) == (other >= high) else -1
                    self.assertEqual(look_of(width, (one, other), width - 1), expected)

    def test_how_far_the_worth_may_be_above(self):
        chance = random.Random(5)
        for width in (5, 8) + GREAT_WIDTHS:
            for pair in itertools.product(numbers_of(width, chance), repeat=2):
                for low in sorted({0, 1, 2, width // 2, width - 2, width - 1}):
                    look = look_of(width, pair, low)
                    self.assertTrue(is_whole(look))
                    self.assertTrue(-(2 ** (width - low - 1)) <= look < 2 ** (width - low - 1))
                    more = (pair_worth(width, pair) - look * 2 ** low) % 2 ** width
                    self.assertTrue(0 <= more <= 2 ** (low + 1) - 2)
                    self.assertEqual(more, pair[0] % 2 ** low + pair[1] % 2 ** low)


class TestThreeInTwo(unittest.TestCase):
    def assert_right(self, width, three):
        told = three_in_two(width, *three)
        self.assertIsInstance(told, tuple)
        self.assertEqual(len(told), 2)
        self.assertTrue(all(is_whole(number) and 0 <= number < 2 ** width for number in told))
        self.assertEqual((sum(told) - sum(three)) % 2 ** width, 0)
        self.assertEqual(pair_worth(width, told), pair_worth(width, (sum(three) % 2 ** width, 0)))
        return told

    def test_all_of_small_widths(self):
        for width in (1, 2, 3):
            for three in itertools.product(range(2 ** width), repeat=3):
                self.assertEqual(self.assert_right(width, three), three_by_bits(width, three))

    def test_written_out(self):
        self.assertEqual(three_in_two(4, 0b1100, 0b1010, 0b0110), (0b0000, 0b1100))
        self.assertEqual(three_in_two(4, 0b0001, 0b0001, 0b0001), (0b0001, 0b0010))
        self.assertEqual(three_in_two(4, 0b1000, 0b1000, 0b0000), (0, 0))

    def test_great_widths(self):
        chance = random.Random(6)
        for width in (64, 100, 333):
            for three in itertools.product(numbers_of(width, chance), repeat=3):
                self.assert_right(width, three)
            for turn in range(20):
                three = [chance.randrange(2 ** width) for place in range(3)]
                self.assertEqual(self.assert_right(width, three), three_by_bits(width, three))

    def test_width_2000(self):
        chance = random.Random(8)
        end = 2 ** 2000 - 1
        some = [0, 1, end, 2 ** 1999, end // 3, 2 * (end // 3), chance.randrange(end), chance.randrange(end)]
        for three in itertools.product(some, repeat=3):
            self.assert_right(2000, three)
        for turn in range(4):
            three = [chance.randrange(end) for place in range(3)]
            self.assertEqual(three_in_two(2000, *three), three_by_bits(2000, three))

    def test_equal_ones(self):
        for width in (1, 2) + GREAT_WIDTHS:
            for number in (0, 1, 2 ** width - 1, 2 ** (width - 1)):
                told = self.assert_right(width, (number, number, number))
                self.assertEqual(told, (number, 2 * number % 2 ** width))

    def test_the_order_of_the_three_is_nothing(self):
        first = three_in_two(9, 300, 77, 411)
        for three in itertools.permutations((300, 77, 411)):
            self.assertEqual(three_in_two(9, *three), first)


if __name__ == "__main__":
    unittest.main()
