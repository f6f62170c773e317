import unittest

from leafmate.errors import BadFolds, BadLay, NoLeaf
from leafmate.marks import bearers, lays_by, part, side, spread
from tests.paper import BAD_FOLDS, BAD_LAYS, COUNT, FAR, FOLDS, GRID, LAYS, folded_pile, told_pairs

SHEETS = [(folds, lay) for folds in FOLDS for lay in LAYS]


def expected_spread(folds, lay):
    rows, columns = GRID[folds]
    parts = {}
    for (row, column, over), (up, quarters) in zip(folded_pile(folds), told_pairs(folds, lay), strict=True):
        parts[row, column] = quarters
    return [[parts[row, column] for column in range(columns)] for row in range(rows)]


def expected_bearers(folds, lay):
    return [leaf for leaf, (up, quarters) in enumerate(told_pairs(folds, lay)) if quarters != ""]


def expected_lays(folds, told):
    return [lay for lay in LAYS if told_pairs(folds, lay) == told]


class PartAndSide(unittest.TestCase):
    def test_each_leaf_of_each_sheet(self):
        for folds, lay in SHEETS:
            for leaf, (up, quarters) in enumerate(told_pairs(folds, lay)):
                with self.subTest(folds=folds, lay=lay, leaf=leaf):
                    self.assertEqual(part(folds, lay, leaf), quarters)
                    self.assertEqual(side(folds, lay, leaf), up)

    def test_by_hand(self):
        self.assertEqual([part(1, 2, leaf) for leaf in range(2)], ["", "abcd"])
        self.assertEqual([side(1, 2, leaf) for leaf in range(2)], ["m", "f"])
        self.assertEqual([part(2, 3, leaf) for leaf in range(4)], ["ab", "cd", "", ""])
        self.assertEqual([side(2, 3, leaf) for leaf in range(4)], ["m", "f", "m", "f"])
        self.assertEqual([part(3, 0, leaf) for leaf in range(8)], ["", "d", "b", "", "", "a", "c", ""])
        self.assertEqual([part(3, 1, leaf) for leaf in range(8)], ["b", "", "", "d", "c", "", "", "a"])
        self.assertEqual([side(3, 0, leaf) for leaf in range(8)], ["f", "m"] * 4)

    def test_no_leaf(self):
        for folds, lay in SHEETS:
            for leaf in (-1, -2, -COUNT[folds], COUNT[folds], COUNT[folds] + 1, FAR, -FAR):
                for ask in (part, side):
                    with self.assertRaises(NoLeaf):
                        ask(folds, lay, leaf)

    def test_bad_lay_ahead_of_no_leaf(self):
        for folds in FOLDS:
            for lay in BAD_LAYS:
                for leaf in (0, -1, COUNT[folds], FAR, -FAR):
                    for ask in (part, side):
                        with self.assertRaises(BadLay):
                            ask(folds, lay, leaf)

    def test_bad_folds_ahead_of_all_else(self):
        for folds in BAD_FOLDS:
            for lay in (0, 3) + BAD_LAYS:
                for leaf in (0, -1, 8, FAR, -FAR):
                    for ask in (part, side):
                        with self.assertRaises(BadFolds):
                            ask(folds, lay, leaf)


class SpreadAndBearers(unittest.TestCase):
    def test_spread_of_each_sheet(self):
        for folds, lay in SHEETS:
            self.assertEqual(spread(folds, lay), expected_spread(folds, lay))

    def test_spread_by_hand(self):
        self.assertEqual(spread(1, 0), [["abcd", ""]])
        self.assertEqual(spread(2, 1), [["", "cd"], ["", "ab"]])
        self.assertEqual(spread(3, 2), [["", "", "b", "a"], ["", "", "d", "c"]])
        self.assertEqual(spread(3, 3), [["c", "d", "", ""], ["a", "b", "", ""]])

    def test_bearers_of_each_sheet(self):
        for folds, lay in SHEETS:
            self.assertEqual(bearers(folds, lay), expected_bearers(folds, lay))

    def test_bearers_by_hand(self):
        self.assertEqual(bearers(1, 0), [0])
        self.assertEqual(bearers(2, 2), [2, 3])
        self.assertEqual(bearers(3, 0), [1, 2, 5, 6])
        self.assertEqual(bearers(3, 1), [0, 3, 4, 7])

    def test_told_spread_is_new_within_too(self):
        for folds, lay in SHEETS:
            told = spread(folds, lay)
            for cells in told:
                cells[0] = "gone"
                cells.append("more")
            self.assertEqual(spread(folds, lay), expected_spread(folds, lay))
            told.clear()
            self.assertEqual(spread(folds, lay), expected_spread(folds, lay))

    def test_rows_of_one_spread_are_unlike_lists(self):
        for folds in (2, 3):
            upper, lower = spread(folds, 0)
            kept = list(lower)
            upper.clear()
            self.assertEqual(lower, kept)

    def test_told_bearers_are_new(self):
        for folds, lay in SHEETS:
            told = bearers(folds, lay)
            told[0] = 99
            told.append(100)
            self.assertEqual(bearers(folds, lay), expected_bearers(folds, lay))

    def test_bad_lay(self):
        for folds in FOLDS:
            for lay in BAD_LAYS:
                for ask in (spread, bearers):
                    with self.assertRaises(BadLay):
                        ask(folds, lay)

    def test_bad_folds_ahead_of_bad_lay(self):
        for folds in BAD_FOLDS:
            for lay in (0, 3) + BAD_LAYS:
                for ask in (spread, bearers):
                    with self.assertRaises(BadFolds):
                        ask(folds, lay)


class LaysBy(unittest.TestCase):
    def hold(self, folds, told):
        """Ask, and hold the answer and the list handed in against what they must be."""
        kept = list(told)
        lays = lays_by(folds, told)
        self.assertEqual(lays, expected_lays(folds, kept))
        self.assertIs(type(lays), list)
        self.assertEqual(told, kept)
        return lays

    def test_each_sheet_is_told_back(self):
        for folds, lay in SHEETS:
            self.assertIn(lay, self.hold(folds, told_pairs(folds, lay)))

    def test_by_hand(self):
        self.assertEqual(lays_by(1, [("f", "abcd"), ("m", "")]), [0])
        self.assertEqual(lays_by(1, [("f", ""), ("m", "abcd")]), [1])
        self.assertEqual(lays_by(1, [("m", ""), ("f", "abcd")]), [2])
        self.assertEqual(lays_by(1, [("m", "abcd"), ("f", "")]), [3])
        self.assertEqual(lays_by(1, [("m", "abcd"), ("m", "")]), [])
        self.assertEqual(lays_by(2, [("m", "ab"), ("f", "cd"), ("m", ""), ("f", "")]), [3])
        self.assertEqual(lays_by(2, [("m", "ba"), ("f", "cd"), ("m", ""), ("f", "")]), [])

    def test_one_side_or_part_changed(self):
        texts = ("m", "f", "", "?", "a", "b", "ab", "ba", "abcd", "mf", "M", " ", "\n", "anything at all")
        for folds, lay in SHEETS:
            pairs = told_pairs(folds, lay)
            for leaf, (up, quarters) in enumerate(pairs):
                for text in texts:
                    self.hold(folds, pairs[:leaf] + [(text, quarters)] + pairs[leaf + 1:])
                    self.hold(folds, pairs[:leaf] + [(up, text)] + pairs[leaf + 1:])
                self.hold(folds, pairs[:leaf] + [(quarters, up)] + pairs[leaf + 1:])

    def test_two_pairs_exchanged(self):
        for folds, lay in SHEETS:
            pairs = told_pairs(folds, lay)
            for one in range(len(pairs)):
                for other in range(one):
                    told = list(pairs)
                    told[one], told[other] = told[other], told[one]
                    self.hold(folds, told)

    def test_too_many_or_too_few_pairs(self):
        for folds, lay in SHEETS:
            pairs = told_pairs(folds, lay)
            for pair in pairs + [("m", ""), ("f", ""), ("", "")]:
                self.assertEqual(self.hold(folds, pairs + [pair]), [])
                self.assertEqual(self.hold(folds, [pair] + pairs), [])
            self.assertEqual(self.hold(folds, pairs + pairs), [])
            self.assertEqual(self.hold(folds, pairs[:-1]), [])
            self.assertEqual(self.hold(folds, pairs[1:]), [])

    def test_no_pairs(self):
        for folds in FOLDS:
            self.assertEqual(lays_by(folds, []), [])

    def test_pairs_of_another_fold(self):
        for folds, lay in SHEETS:
            for other in FOLDS:
                if other != folds:
                    self.assertEqual(lays_by(other, told_pairs(folds, lay)), [])

    def test_told_list_is_new(self):
        for folds, lay in SHEETS:
            pairs = told_pairs(folds, lay)
            lays = lays_by(folds, pairs)
            lays.append(99)
            self.assertEqual(lays_by(folds, pairs), expected_lays(folds, pairs))
        empty = lays_by(1, [])
        empty.append(99)
        self.assertEqual(lays_by(1, []), [])

    def test_bad_folds_alone(self):
        for folds in BAD_FOLDS:
            for told in ([], [("", "")], told_pairs(3, 0)):
                with self.assertRaises(BadFolds):
                    lays_by(folds, told)
