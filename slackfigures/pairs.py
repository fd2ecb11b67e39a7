"""Pairs: a number in two rows of bits that were never added up."""


def pair_worth(width, pair):
    """The worth of the pair, of either sign."""
    whole = 1 << width
    total = (pair[0] + pair[1]) % whole
    return total if 2 * total < whole else total - whole


def look_of(width, pair, low):
    """The worth of the pair's numbers without their low bits."""
    return pair_worth(width - low, (pair[0] >> low, pair[1] >> low))


def three_in_two(width, one, other, third):
    """A pair whose worth is that of the sum of all three."""
    single = one ^ other ^ third
    carried = (one & other) | (one & third) | (other & third)
    return single, (2 * carried) % (1 << width)
