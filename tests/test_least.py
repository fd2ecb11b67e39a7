import subprocess
import sys
import unittest
from pathlib import Path

from slackfigures.errors import NoLooks, NoTable
from slackfigures.least import least_looks
from slackfigures.points import two_points
from slackfigures.tables import first_fault, is_table, plain_table
from tests.common import (
    KINDS, cells_reckoned, figures_of, good_reckoned, is_met_reckoned, is_point_reckoned, is_whole, serves_reckoned,
    shown_reckoned,
)

TOP = Path(__file__).resolve().parent.parent

# No let looks have a plain table.
NONE_SERVE = [((8, 4), 1), ((8, 4), 2), ((16, 8), 1), ((16, 8), 2), ((16, 9), 1), ((16, 9), 2), ((16, 10), 1),
              ((16, 10), 2), ((16, 11), 2)]
SERVED = [(kind, sight) for kind in KINDS for sight in (1, 2) if (kind, sight) not in NONE_SERVE]
# Small enough that each cell ahead is reckoned apart.
SMALL = [((2, 1), 1), ((2, 1), 2), ((4, 2), 1), ((4, 2), 2), ((4, 3), 1), ((4, 3), 2), ((8, 7), 1)]


def let_in_order(kind):
    """All let looks, by tops and parts together, then by tops."""
    looks = [(tops, parts) for tops in range(1, 11) for parts in range(11)]
    let = [(tops, parts) for tops, parts in looks if 2 ** tops * (kind[0] * 2 ** parts + 2) <= 20000]
    return sorted(let, key=lambda one: (one[0] + one[1], one[0]))


def first_bare_cell(kind, looks, sight):
    """Reckoned cell by cell."""
    for cell in cells_reckoned(kind, looks):
        if is_met_reckoned(kind, looks, sight, cell) and not good_reckoned(kind, looks, sight, cell):
            return cell
    return None


def refused_at(kind, looks, sight):
    try:
        plain_table(kind, looks, sight)
    except NoTable as refused:
        return refused.top, refused.look
    return None


class TestLeastLooks(unittest.TestCase):
    def assert_points(self, kind, looks, sight, cell, one, other):
        """Two points of one width show the cell, and no figure serves both."""
        for point in (one, other):
            self.assertIsInstance(point, tuple)
            self.assertTrue(all(is_whole(number) for number in point))
            self.assertTrue(is_point_reckoned(kind, looks, point))
            self.assertIn(cell, shown_reckoned(looks, sight, point))
        self.assertEqual(one[0], other[0])
        for figure in figures_of(kind):
            self.assertFalse(serves_reckoned(kind, figure, one) and serves_reckoned(kind, figure, other))

    def assert_papers(self, kind, sight, papers, ahead):
        self.assertIsInstance(papers, list)
        self.assertEqual([paper[0] for paper in papers], ahead)
        for paper in papers:
            self.assertIsInstance(paper, tuple)
            looks, cell, one, other = paper
            self.assertEqual(cell, refused_at(kind, looks, sight))
            self.assert_points(kind, looks, sight, cell, one, other)

    def test_of_all_kinds_that_have_some(self):
        for kind, sight in SERVED:
            told = least_looks(kind, sight)
            self.assertIsInstance(told, tuple)
            looks, papers = told
            self.assertIsInstance(looks, tuple)
            let = let_in_order(kind)
            self.assertIn(looks, let)
            self.assert_papers(kind, sight, papers, let[:let.index(looks)])
            table = plain_table(kind, looks, sight)
            self.assertTrue(is_table(kind, looks, table))
            self.assertIsNone(first_fault(kind, looks, sight, table))

    def test_cells_ahead_reckoned_apart(self):
        for kind, sight in SMALL:
            looks, papers = least_looks(kind, sight)
            for paper in papers:
                self.assertEqual(paper[1], first_bare_cell(kind, paper[0], sight), (kind, sight, paper))
            self.assertIsNone(first_bare_cell(kind, looks, sight))

    def test_written_out(self):
        self.assertEqual(least_looks((2, 1), 1), ((1, 0), []))
        self.assertEqual(least_looks((2, 1), 2)[0], (1, 1))
        self.assertEqual(least_looks((4, 2), 1)[0], (4, 3))
        self.assertEqual(least_looks((4, 2), 2)[0], (4, 4))
        self.assertEqual(least_looks((4, 3), 1)[0], (2, 1))
        self.assertEqual(least_looks((4, 3), 2)[0], (3, 2))
        self.assertEqual(least_looks((16, 15), 1)[0], (5, 3))

    def test_the_order_of_looks(self):
        looks, papers = least_looks((4, 3), 2)
        self.assertEqual(
            [paper[0] for paper in papers] + [looks],
            [(1, 0), (1, 1), (2, 0), (1, 2), (2, 1), (3, 0), (1, 3), (2, 2), (3, 1), (4, 0), (1, 4), (2, 3), (3, 2)],
        )

    def test_looks_that_are_not_let_have_no_paper(self):
        # With base 16, (1, 10) is not let, though its tops and parts together are no more than those of others.
        looks, papers = least_looks((16, 11), 1)
        self.assertEqual(looks, (6, 4))
        self.assertNotIn((1, 10), [paper[0] for paper in papers])
        self.assertIn((1, 9), [paper[0] for paper in papers])

    def test_no_looks(self):
        for kind, sight in NONE_SERVE:
            with self.assertRaises(NoLooks) as caught:
                least_looks(kind, sight)
            self.assertIs(type(caught.exception), NoLooks)
            for looks in let_in_order(kind):
                cell = refused_at(kind, looks, sight)
                self.assertIsNotNone(cell, (kind, looks, sight))
                one, other = two_points(kind, looks, sight, cell)
                self.assert_points(kind, looks, sight, cell, one, other)

    def test_the_same_again_when_what_was_told_is_changed(self):
        for kind, sight in SMALL:
            first = least_looks(kind, sight)
            copy = (first[0], list(first[1]))
            second = least_looks(kind, sight)
            self.assertIsNot(first[1], second[1])
            first[1].append(None)
            first[1][0] = 5
            self.assertEqual(second, copy)
            self.assertEqual(least_looks(kind, sight), copy)

    def test_all_within_some_seconds(self):
        # In a process of its own, so that an answer that never comes fails, too.
        script = (
            "from slackfigures.errors import NoLooks\n"
            "from slackfigures.least import least_looks\n"
            "for base in (2, 4, 8, 16):\n"
            "    for most in range(base // 2, base):\n"
            "        for sight in (1, 2):\n"
            "            try:\n"
            "                least_looks((base, most), sight)\n"
            "            except NoLooks:\n"
            "                pass\n"
        )
        subprocess.run([sys.executable, "-c", script], cwd=TOP, check=True, timeout=60)


if __name__ == "__main__":
    unittest.main()
