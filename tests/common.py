"""What several tests ask for."""

KINDS = [(base, most) for base in (2, 4, 8, 16) for most in range(base // 2, base)]


def is_whole(thing):
    return isinstance(thing, int) and not isinstance(thing, bool)


def greatest(kind, count):
    """The greatest worth of a row of so many figures."""
    base, most = kind
    return most * (base ** count - 1) // (base - 1)
