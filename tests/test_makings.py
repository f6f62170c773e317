import copy
import random
import unittest

from leafmate.errors import BadLeaf, BadMould
from leafmate.makings import is_making, lets, lost, row_of, steps
from leafmate.sheets import good_leaf
from tests.paper import (
    BAD_LEAVES, BAD_MOULDS, BAD_SHEETS, COUNT, FAR, FOLDS, LAYS, UNSEEN, fit, left_row, looked_at, lost_count, nested,
    pieces, some_making,
)

MOULDS = ["ox", "crown", "a"]
SOUND = [[(("ox", 2, 1), (0, 3)), (("crown", 1, 0), ())], [(("ox", 3, 2), (1, 2, 7))]]


def makings():
    """Makings of none to four gatherings, of one to four sheets each, with and without lost leaves."""
    found = [[], [[(("ox", 1, 0), ())]], SOUND]
    found.append([[(("ox", folds, lay), ()) for folds in FOLDS] for lay in LAYS])
    found.append([[(("a", 3, lay), (lay, 7 - lay)) for lay in LAYS] for gathering in range(4)])
    chance = random.Random(11)
    for gatherings in range(1, 5):
        for sheets in range(1, 5):
            for time in range(4):
                found.append([[some_piece(chance, time % 2) for sheet in range(sheets)] for number in range(gatherings)])
    for left in range(30):
        found.append(some_making(chance, MOULDS, left))
    return found


def some_piece(chance, whole):
    """A sheet with no leaf lost, or with some."""
    sheet = (chance.choice(MOULDS), chance.choice(FOLDS), chance.choice(LAYS))
    size = COUNT[sheet[1]]
    return sheet, () if whole else tuple(sorted(chance.sample(range(size), chance.randrange(size))))


class IsMaking(unittest.TestCase):
    def hold(self, making, expected, moulds=MOULDS):
        handed, named = copy.deepcopy(making), list(moulds)
        self.assertIs(is_making(named, handed), expected, making)
        self.assertEqual((handed, named), (making, list(moulds)))

    def test_makings(self):
        for making in makings():
            self.hold(making, True)

    def test_each_sheet_with_each_loss(self):
        for sheet, gone in pieces(["ox"]):
            self.hold([[(sheet, gone)]], True)
            self.hold([[(sheet, gone)]], True, ["a", "ox"])
            self.hold([[(sheet, gone)]], False, ["a"])

    def test_no_gatherings_of_any_moulds(self):
        self.hold([], True, ["b"])

    def test_an_empty_gathering(self):
        self.hold([[]], False)
        for making in makings():
            for place in range(len(making) + 1):
                self.hold(making[:place] + [[]] + making[place:], False)

    def changed(self, piece):
        """This pair in the place of each one of a making, and beside each."""
        for g, gathering in enumerate(SOUND):
            for s in range(len(gathering)):
                for behind in (s, s + 1):
                    yield SOUND[:g] + [gathering[:s] + [piece] + gathering[behind:]] + SOUND[g + 1:]

    def test_a_sheet_that_is_none(self):
        for sheet in BAD_SHEETS + (("ox", True, 0), ("ox", 1, True), ("ox", 1, False)):
            for making in self.changed((sheet, ())):
                self.hold(making, False)

    def test_a_mould_that_was_not_handed_in(self):
        for mould in ("b", "oxen", "o", "x", "crow"):
            for making in self.changed(((mould, 1, 0), ())):
                self.hold(making, False)
                self.hold(making, True, ["ox", "crown", mould])

    def test_lost_leaves(self):
        for folds in FOLDS:
            size = COUNT[folds]
            wrong = [(0, 0), (1, 0), (0, 1, 0), (1, 1), (-1,), (size,), (-1, 0), (0, size), (FAR,), (-FAR,), (-1, size)]
            wrong += [(size - 1, 0), (0, 0, 1), (0, 1, 1), tuple(range(size)), tuple(range(size + 1))]
            wrong += [tuple(range(-1, size - 1)), tuple(range(size))[::-1], (True,), (False,), (0, True), (False, 1)]
            for gone in wrong:
                self.hold([[(("ox", folds, 0), gone)]], False)
                for making in self.changed((("ox", folds, 0), gone)):
                    self.hold(making, False)

    def test_lost_leaves_not_rising_at_each_place(self):
        for gone in ((1, 0, 2, 3), (0, 2, 1, 3), (0, 1, 3, 2), (0, 0, 1, 2), (0, 1, 1, 2), (0, 1, 2, 2), (3, 2, 1, 0)):
            self.hold([[(("ox", 3, 0), gone)]], False)

    def test_all_but_one_lost(self):
        for folds in FOLDS:
            for kept in range(COUNT[folds]):
                gone = tuple(leaf for leaf in range(COUNT[folds]) if leaf != kept)
                self.hold([[(("ox", folds, 3), gone)]], True)

    def test_bad_mould(self):
        for moulds in BAD_MOULDS:
            for making in ([], SOUND, [[]], [[(("ox", 4, 0), ())]]):
                handed = list(moulds)
                with self.assertRaises(BadMould):
                    is_making(handed, making)
                self.assertEqual(handed, moulds)


class LostAndRow(unittest.TestCase):
    def test_lost(self):
        for making in makings():
            handed = copy.deepcopy(making)
            told = lost(handed)
            self.assertEqual(told, lost_count(making))
            self.assertIs(type(told), int)
            self.assertEqual(handed, making)

    def test_row_of(self):
        for making in makings():
            handed = copy.deepcopy(making)
            told = row_of(handed)
            self.assertEqual(told, left_row(making))
            self.assertIs(type(told), list)
            self.assertEqual(handed, making)
            told.append("gone")
            told[0] = "gone"
            self.assertEqual(row_of(handed), left_row(making))

    def test_left_and_lost_are_all(self):
        for making in makings():
            size = sum(COUNT[sheet[1]] for gathering in making for sheet, gone in gathering)
            self.assertEqual(len(row_of(making)) + lost(making), size)

    def test_by_hand(self):
        self.assertEqual((lost([]), row_of([])), (0, []))
        making = [[(("ox", 2, 3), (1,)), (("crown", 1, 0), (1,))], [(("ox", 1, 3), ())]]
        self.assertEqual(lost(making), 2)
        self.assertEqual(row_of(making), [
            ("m", "ox", "ab"), ("f", "crown", "abcd"), ("m", "", ""), ("f", "", ""), ("m", "ox", "abcd"), ("f", "", ""),
        ])

    def test_more_than_three_moulds(self):
        making = [[((name, 1, 0), (0,)), ((name, 1, 0), ())] for name in ("a", "b", "c", "d", "e")]
        self.assertEqual((lost(making), row_of(making)), (5, left_row(making)))


class Lets(unittest.TestCase):
    def hold(self, row, making, expected, moulds=MOULDS):
        handed = list(row), list(moulds), copy.deepcopy(making)
        self.assertIs(lets(*handed), expected)
        self.assertEqual(handed, (row, list(moulds), making))

    def test_its_own_row(self):
        chance = random.Random(12)
        for making in makings():
            row = left_row(making)
            self.hold(row, making, True)
            for share in (0.8, 0.5, 0.2, 0):
                self.hold(looked_at(chance, row, share), making, True)

    def test_rows_of_more_than_twelve(self):
        long = [making for making in makings() if len(left_row(making)) > 12]
        self.assertGreater(len(long), 20)
        for making in long:
            self.hold([UNSEEN] * len(left_row(making)), making, True)

    def test_a_leaf_more_or_fewer(self):
        for making in makings()[:60]:
            row = left_row(making)
            for place in range(len(row)):
                self.hold(row[:place] + row[place + 1:], making, False)
                self.hold(row[:place] + [row[place]] + row[place:], making, False)
            for place in range(len(row) + 1):
                self.hold(row[:place] + [UNSEEN] + row[place:], making, False)

    def test_two_exchanged(self):
        for making in makings()[:40]:
            row = left_row(making)
            for i in range(len(row)):
                for j in range(i):
                    other = list(row)
                    other[i], other[j] = row[j], row[i]
                    self.hold(other, making, row[i] == row[j])

    def test_another_leaf_in_the_place_of_one(self):
        others = [UNSEEN, ("m", "?", "?"), ("f", "", ""), ("?", "ox", "abcd"), ("m", "ox", "a"), ("f", "far", "b")]
        for making in makings()[:40]:
            row = left_row(making)
            for place in range(len(row)):
                for other in others:
                    self.hold(row[:place] + [other] + row[place + 1:], making, fit(other, row[place]))

    def test_no_making_of_these_moulds(self):
        row = left_row(SOUND)
        self.hold(row, SOUND, True, ["crown", "ox"])
        for moulds in (["ox"], ["crown"], ["a", "b"]):
            self.hold(row, SOUND, False, moulds)
            self.hold([UNSEEN] * len(row), SOUND, False, moulds)
        for wrong in ([[]], SOUND + [[]], [[(("ox", 4, 0), ())]], [[(("ox", 1, 0), (0, 1))]], [[(("ox", 1, 0), (0, 0))]]):
            for many in range(len(row) + 1):
                self.hold([UNSEEN] * many, wrong, False)
        self.hold([("m", "", "")], [[(("ox", 1, 0), (0, 0))]], False)
        self.hold([], [[(("ox", 1, 0), (0, 1))]], False)

    def test_no_leaves(self):
        self.hold([], [], True)
        self.hold([], SOUND, False)
        self.hold([UNSEEN], [], False)

    def test_refusals_in_their_order(self):
        for moulds in BAD_MOULDS:
            for leaf in BAD_LEAVES + (UNSEEN,):
                with self.assertRaises(BadMould):
                    lets([leaf], moulds, SOUND)
        row = left_row(SOUND)
        for leaf in BAD_LEAVES:
            self.assertFalse(good_leaf(leaf))
            for place in range(len(row)):
                handed = row[:place] + [leaf] + row[place + 1:]
                for making in (SOUND, [], [[]]):
                    with self.assertRaises(BadLeaf):
                        lets(handed, MOULDS, making)
            with self.assertRaises(BadLeaf):
                lets([UNSEEN] * 40 + [leaf], MOULDS, [])


class Steps(unittest.TestCase):
    def expected(self, making):
        gathers, tears, came = [], [], 0
        for gathering in making:
            sheets = [sheet for sheet, gone in gathering]
            gathers.append(("gather", *sheets))
            for sheet, leaf in nested(sheets):
                if leaf in gathering[sheet][1]:
                    tears.append(("tear", came))
                came += 1
        return gathers + tears

    def test_deeds_in_their_order(self):
        for making in makings():
            handed = copy.deepcopy(making)
            told = steps(handed)
            self.assertEqual(told, self.expected(making))
            self.assertIs(type(told), list)
            self.assertTrue(all(type(deed) is tuple for deed in told))
            self.assertEqual(handed, making)
            told.append("gone")
            told[0] = "gone"
            self.assertEqual(steps(handed), self.expected(making))

    def test_by_hand(self):
        self.assertEqual(steps([]), [])
        making = [[(("ox", 2, 3), (1, 3)), (("crown", 1, 0), (1,))], [(("ox", 1, 3), (0,))], [(("ox", 1, 3), ())]]
        self.assertEqual(steps(making), [
            ("gather", ("ox", 2, 3), ("crown", 1, 0)), ("gather", ("ox", 1, 3)), ("gather", ("ox", 1, 3)),
            ("tear", 1), ("tear", 3), ("tear", 5), ("tear", 6),
        ])
