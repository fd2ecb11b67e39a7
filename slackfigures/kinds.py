"""Kinds of figures: a base, and the greatest figure."""

BASES = (2, 4, 8, 16)


def is_whole(thing):
    """Whether the thing, any one, is an int that is no truth."""
    return isinstance(thing, int) and not isinstance(thing, bool)


def is_kind(thing):
    """Whether the thing, any one, is a kind (base, most)."""
    if not isinstance(thing, tuple) or len(thing) != 2:
        return False
    base, most = thing
    if not is_whole(base) or not is_whole(most):
        return False
    return base in BASES and base // 2 <= most <= base - 1


def is_figure(kind, thing):
    """Whether the thing, any one, is a figure of the kind."""
    most = kind[1]
    return is_whole(thing) and -most <= thing <= most


def bits_of(base):
    """How many bits a digit of the base has: 1, 2, 3 or 4."""
    # The base is a power of two, so it has one bit more than its digits.
    return base.bit_length() - 1
