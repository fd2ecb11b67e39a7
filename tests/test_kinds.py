import unittest

from slackfigures.kinds import bits_of, is_kind
from tests.common import KINDS, is_whole

BASES = (2, 4, 8, 16)


class Odd:
    """A thing that answers every comparison with yes."""

    def __eq__(self, other):
        return True

    def __le__(self, other):
        return True

    __lt__ = __ge__ = __gt__ = __le__
    __hash__ = None


NO_KINDS = [
    # Truths, in either place or both.
    True, False, (True, 1), (2, True), (True, True), (False, False), (2, False), (False, 1), (True, 0),
    # No tuples.
    None, "", "4 2", "42", "(4, 2)", b"", b"42", b"\x04\x02", 0, 2, 4, -4, 10 ** 60, 2.0, 1j, ...,
    [], [4, 2], [2, 1], [[4, 2]], {}, {4: 2}, {4, 2}, {4: 1, 2: 1}, frozenset((4, 2)), range(2), range(4, 0, -2),
    int, tuple, is_kind, object(), Odd(), bytearray(b"\x04\x02"),
    # Tuples of another length.
    (), (4,), (2,), ((4, 2),), (4, 2, 2), (2, 1, 1), (4, 2, None), (4, 2) * 2,
    # Tuples with something else within.
    ("4", "2"), (4, "2"), ("4", 2), "ab", (None, None), (4, None), (None, 2), ("", ""), (b"4", b"2"),
    ((4, 2), (4, 2)), ((4,), 2), (4, (2,)), ([4], 2), (4, [2]), ([], []), ({}, {}), ({4}, {2}),
    (4.0, 2), (4, 2.0), (2.0, 1.0), (4 + 0j, 2), (float("nan"), 2), (4, float("inf")), (4, 2.5),
    (Odd(), 2), (4, Odd()), (Odd(), Odd()), (int, int), (4, ...),
]


class TestIsKind(unittest.TestCase):
    def check(self, thing, answer):
        self.assertIs(is_kind(thing), answer, repr(thing))

    def test_half_to_one_less_than_the_base(self):
        for base in BASES:
            self.check((base, base // 2), True)
            self.check((base, base - 1), True)
            for most in range(base // 2, base):
                self.check((base, most), True)

    def test_beyond_the_ends(self):
        for base in BASES:
            self.check((base, base // 2 - 1), False)
            self.check((base, base), False)
            for most in list(range(-40, base // 2)) + list(range(base, 60)) + [10 ** 59, -(10 ** 59)]:
                self.check((base, most), False)

    def test_other_bases(self):
        for base in list(range(-20, 70)) + [10 ** 59, -(10 ** 59), 2 ** 128, 256]:
            if base not in BASES:
                for most in (base // 2 - 1, base // 2, base // 2 + 1, base - 1, base, 0, 1, 2, 8):
                    self.check((base, most), False)

    def test_the_places_are_not_swapped(self):
        self.check((2, 4), False)
        self.check((8, 16), False)

    def test_all_kinds(self):
        pairs = [(base, most) for base in range(-3, 20) for most in range(-20, 20)]
        self.assertEqual([pair for pair in pairs if is_kind(pair)], KINDS)
        self.assertEqual(len(KINDS), 1 + 2 + 4 + 8)

    def test_things_that_are_no_kind(self):
        for thing in NO_KINDS:
            self.check(thing, False)

    def test_the_thing_stays_as_it_was(self):
        thing = [4, 2]
        is_kind(thing)
        self.assertEqual(thing, [4, 2])
        within = ([4], {2: 3})
        is_kind(within)
        self.assertEqual(within, ([4], {2: 3}))

    def test_the_same_is_answered_the_same(self):
        for turn in range(3):
            self.check((4, 2), True)
            self.check((4, 1), False)
            self.check(None, False)


class TestBitsOf(unittest.TestCase):
    def test_all_four_bases(self):
        self.assertEqual([bits_of(base) for base in BASES], [1, 2, 3, 4])

    def test_a_whole_number(self):
        for base in BASES:
            self.assertTrue(is_whole(bits_of(base)))
            self.assertEqual(2 ** bits_of(base), base)


if __name__ == "__main__":
    unittest.main()
