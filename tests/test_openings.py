import itertools
import unittest

from leafmate.errors import BadLeaf
from leafmate.openings import breaks, runs

BAD_LEAVES = (
    ("", "", ""), ("x", "ox", "ab"), ("mf", "", ""), ("M", "", ""), ("m", "?", ""), ("m", "", "?"), ("m", "ox", "?"),
    ("m", "?", "ab"), ("m", "ox", ""), ("m", "", "ab"), ("m", "ox", "ba"), ("m", "ox", "ac"), ("m", "Ox", "ab"),
    ("m", "abcdefghi", "ab"), ("?", "?", "a"), ("\n", "?", "?"),
)
MARKS = (("ox", "ab"), ("", ""), ("?", "?"), ("crown", "abcd"), ("a", "c"))


def seen_row(sides):
    return [(side, *MARKS[k % len(MARKS)]) for k, side in enumerate(sides)]


def expected_breaks(sides):
    return [k for k in range(len(sides) - 1) if sides[k:k + 2] in ("mm", "ff")]


def expected_runs(sides):
    """Leaf by leaf: each one goes on with the run ahead of it, but behind a break."""
    found = []
    for k in range(len(sides)):
        if k == 0 or sides[k - 1:k + 1] in ("mm", "ff"):
            found.append((k, k + 1))
        else:
            found[-1] = (found[-1][0], k + 1)
    return found


def texts_of_sides():
    found = ["".join(sides) for many in range(7) for sides in itertools.product("mf?", repeat=many)]
    found += ["mf" * 20, "m" * 40, "f" * 41, "?" * 40, "mmf?" * 10, "m?" * 20, "ffmmff??" * 5 + "f"]
    found += ["mm" + "fm" * 19, "mf" * 19 + "ff"]
    return found


class Openings(unittest.TestCase):
    def hold(self, ask, expected):
        for sides in texts_of_sides():
            row = seen_row(sides)
            handed = list(row)
            told = ask(handed)
            self.assertEqual(told, expected(sides), sides)
            self.assertIs(type(told), list)
            self.assertEqual(handed, row)
            told.append("gone")
            told[0] = "gone"
            self.assertEqual(ask(handed), expected(sides), sides)

    def test_breaks(self):
        self.hold(breaks, expected_breaks)

    def test_runs(self):
        self.hold(runs, expected_runs)

    def test_no_leaf_and_one_leaf(self):
        self.assertEqual(breaks([]), [])
        self.assertEqual(runs([]), [])
        for side in "mf?":
            self.assertEqual(breaks([(side, "?", "?")]), [])
            self.assertEqual(runs([(side, "?", "?")]), [(0, 1)])

    def test_by_hand(self):
        self.assertEqual(breaks(seen_row("mfmmf?f?ff")), [2, 8])
        self.assertEqual(runs(seen_row("mfmmf?f?ff")), [(0, 3), (3, 9), (9, 10)])
        self.assertEqual(breaks(seen_row("mm")), [0])
        self.assertEqual(runs(seen_row("mm")), [(0, 1), (1, 2)])

    def test_break_at_the_first_and_at_the_last_number(self):
        row = seen_row("ff" + "mf" * 18 + "mm")
        self.assertEqual(len(row), 40)
        self.assertEqual(breaks(row), [0, 38])
        self.assertEqual(runs(row), [(0, 1), (1, 39), (39, 40)])

    def test_only_sides_are_compared(self):
        self.assertEqual(breaks([("m", "ox", "ab"), ("m", "ox", "cd")]), [0])
        self.assertEqual(breaks([("m", "ox", "ab"), ("f", "ox", "ab")]), [])
        self.assertEqual(breaks([("?", "ox", "ab"), ("?", "ox", "ab")]), [])

    def test_many_leaves(self):
        row = seen_row("mmff" * 500)
        self.assertEqual(breaks(row), list(range(0, 1999, 2)))
        self.assertEqual(len(runs(row)), 1001)

    def test_kinds(self):
        row = seen_row("mmf?ff")
        self.assertEqual([type(k) for k in breaks(row)], [int, int])
        for pair in runs(row):
            self.assertIs(type(pair), tuple)
            self.assertEqual([type(k) for k in pair], [int, int])

    def test_bad_leaf_at_any_place(self):
        good = seen_row("mff?m")
        for ask in (breaks, runs):
            for bad in BAD_LEAVES:
                for place in range(len(good) + 1):
                    row = good[:place] + [bad] + good[place:]
                    handed = list(row)
                    with self.assertRaises(BadLeaf):
                        ask(handed)
                    self.assertEqual(handed, row)
                with self.assertRaises(BadLeaf):
                    ask([bad])
