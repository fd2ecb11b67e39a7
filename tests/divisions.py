"""Tables and numbers to divide with, for the tests of both ways to divide."""

import random

from slackfigures.cells import good_figures, is_met
from slackfigures.tables import plain_table
from tests.common import KINDS, cells_reckoned, figures_of, filled_table

# Of these there is a plain table by both sights.
BOTH_SIGHTS = [
    ((2, 1), (1, 1)), ((2, 1), (3, 3)), ((2, 1), (1, 6)), ((2, 1), (7, 2)), ((4, 2), (4, 4)), ((4, 2), (5, 4)),
    ((4, 3), (3, 2)), ((4, 3), (3, 4)), ((8, 5), (5, 5)), ((8, 6), (5, 4)), ((8, 7), (4, 3)), ((16, 12), (6, 4)),
    ((16, 15), (5, 4)),
]
# Of these there is one by sight 1 alone.
ONE_SIGHT = [((2, 1), (1, 0)), ((4, 2), (4, 3)), ((4, 3), (2, 1)), ((8, 6), (5, 2)), ((16, 11), (6, 4))]


def good_table(kind, looks, sight, chance):
    """A table that is let by: any good figures where cells are met, and anything elsewhere."""
    anything = list(figures_of(kind)) + [None]
    return filled_table(
        kind, looks, lambda cell:
        chance.choice(good_figures(kind, looks, sight, cell) if is_met(kind, looks, sight, cell) else anything),
    )


def tables_let_by(kind, looks, sight):
    chance = random.Random(f"{kind} {looks} {sight}")
    return [plain_table(kind, looks, sight)] + [good_table(kind, looks, sight, chance) for turn in range(2)]


def wrong_tables(kind, looks, sight):
    """Plain tables with some entries changed, and tables with anything at all."""
    chance = random.Random(f"wrong {kind} {looks} {sight}")
    anything = list(figures_of(kind)) + [None]
    tables = [filled_table(kind, looks, lambda cell: None), filled_table(kind, looks, lambda cell: 0)]
    tables.append(filled_table(kind, looks, lambda cell: chance.choice(anything)))
    for share in (2, 10, 40):
        table = plain_table(kind, looks, sight)
        for row in table:
            for place in range(len(row)):
                if chance.randrange(share) == 0:
                    row[place] = chance.choice(anything)
        tables.append(table)
    return tables


def some_divisors(kind, chance):
    """Small ones, powers of the base and beside them, and ones of up to two hundred figures."""
    base = kind[0]
    divisors = [1, 2, 3, 5, 7, base - 1, base, base + 1, base ** 3 - 1, base ** 3, 105, 1023, 1024, 1025]
    divisors += [base ** 40 - 1, base ** 40 + 1, 10 ** 59 + 9, 10 ** 199 + 7, 10 ** 200 - 1]
    return divisors + [chance.randrange(1, 10 ** figures) for figures in (2, 4, 9, 30, 60, 200)]


def some_numbers(kind, divisor, chance):
    """Nought, near multiples of the divisor and its powers, at the edge of the room, and others; both signs."""
    base, most = kind
    numbers = [0, 1, 2, divisor - 1, divisor, divisor + 1, 7 * divisor - 1, 7 * divisor, 7 * divisor + 1]
    numbers += [divisor * divisor - 1, divisor * divisor, divisor * divisor + 1, divisor // 2, divisor // 3]
    for many in (0, 1, 4, 30):
        edge = most * divisor * base ** many // (base - 1)
        numbers += [edge - 1, edge, edge + 1, divisor * base ** many]
    numbers += [chance.randrange(10 ** figures) for figures in (3, 20, 60, 200)] + [10 ** 200 - 1]
    within = [number for number in numbers if 0 <= number < 10 ** 200]
    return within + [-number for number in within]


def some_pairs(kind, many):
    """So many of these numbers, each with its divisor."""
    chance = random.Random(f"pairs {kind}")
    pairs = [
        (number, divisor) for divisor in some_divisors(kind, chance) for number in some_numbers(kind, divisor, chance)
    ]
    return chance.sample(pairs, many)


def all_kinds_tried():
    return sorted({kind for kind, looks in BOTH_SIGHTS + ONE_SIGHT})


assert set(all_kinds_tried()) <= set(KINDS)
assert all(cells_reckoned(kind, looks) for kind, looks in BOTH_SIGHTS + ONE_SIGHT)
