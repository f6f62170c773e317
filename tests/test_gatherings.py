import itertools
import unittest

from leafmate.errors import BadSheet, NoSheets
from leafmate.gatherings import laid, mates, shown
from tests.paper import BAD_SHEETS, COUNT, FOLDS, LAYS, nested, told_leaves

ALL = (laid, mates, shown)


def gatherings():
    """Gatherings of one sheet, of all folds side by side, and of more than six."""
    found = [[("ox", folds, lay)] for folds in FOLDS for lay in LAYS]
    for many in (2, 3, 4):
        for often in itertools.product(FOLDS, repeat=many):
            found.append([(("ox", "crown", "a")[k % 3], folds, (k + often[0]) % 4) for k, folds in enumerate(often)])
    found.append([("ox", 1, 0)] * 7)
    found.append([("ox", 3, 1)] * 9)
    found.append([("ox", k % 3 + 1, k % 4) for k in range(24)])
    return found


def expected_mates(sheets):
    places = nested(sheets)
    return [places.index((sheet, COUNT[sheets[sheet][1]] - 1 - leaf)) for sheet, leaf in places]


def expected_shown(sheets):
    return [told_leaves(sheets[sheet])[leaf] for sheet, leaf in nested(sheets)]


class Gatherings(unittest.TestCase):
    def hold(self, ask, expected):
        for sheets in gatherings():
            handed = list(sheets)
            told = ask(handed)
            self.assertEqual(told, expected(sheets))
            self.assertIs(type(told), list)
            self.assertEqual(handed, sheets)
            told[0] = "gone"
            told.pop()
            told.append("gone")
            self.assertEqual(ask(handed), expected(sheets))
            handed.append(("ox", 1, 1))
            self.assertEqual(ask(handed), expected(sheets + [("ox", 1, 1)]))

    def test_laid(self):
        self.hold(laid, nested)

    def test_mates(self):
        self.hold(mates, expected_mates)

    def test_shown(self):
        self.hold(shown, expected_shown)

    def test_laid_by_hand(self):
        self.assertEqual(laid([("ox", 2, 0)]), [(0, 0), (0, 1), (0, 2), (0, 3)])
        self.assertEqual(laid([("ox", 2, 0), ("ox", 1, 3), ("a", 1, 2)]), [
            (0, 0), (0, 1), (1, 0), (2, 0), (2, 1), (1, 1), (0, 2), (0, 3),
        ])

    def test_mates_by_hand(self):
        self.assertEqual(mates([("ox", 1, 0)]), [1, 0])
        self.assertEqual(mates([("ox", 2, 0), ("ox", 1, 0)]), [5, 4, 3, 2, 1, 0])

    def test_shown_by_hand(self):
        self.assertEqual(shown([("ox", 1, 0), ("crown", 1, 3)]), [
            ("f", "ox", "abcd"), ("m", "crown", "abcd"), ("f", "", ""), ("m", "", ""),
        ])

    def test_mates_of_mates(self):
        for sheets in gatherings():
            told = mates(sheets)
            for place, mate in enumerate(told):
                self.assertNotEqual(mate, place)
                self.assertEqual(told[mate], place)

    def test_kinds(self):
        for sheets in gatherings():
            for pair in laid(sheets):
                self.assertIs(type(pair), tuple)
                self.assertEqual([type(thing) for thing in pair], [int, int])
            self.assertEqual({type(place) for place in mates(sheets)}, {int})
            for leaf in shown(sheets):
                self.assertIs(type(leaf), tuple)
                self.assertEqual([type(thing) for thing in leaf], [str, str, str])

    def test_no_sheets(self):
        for ask in ALL:
            handed = []
            with self.assertRaises(NoSheets):
                ask(handed)
            self.assertEqual(handed, [])

    def test_bad_sheet_at_any_place(self):
        good = [("ox", 1, 0), ("ox", 3, 3), ("a", 2, 1), ("ox", 1, 2)]
        for ask in ALL:
            for bad in BAD_SHEETS:
                for sheets in ([bad], [bad] + good, good[:2] + [bad] + good[2:], good + [bad]):
                    handed = list(sheets)
                    with self.assertRaises(BadSheet):
                        ask(handed)
                    self.assertEqual(handed, sheets)
