import itertools
import unittest

from leafmate.errors import BadMould, BadSheet
from leafmate.folds import count, leaf_at, mate, pile
from leafmate.marks import bearers, lays_by, part, side, spread
from leafmate.sheets import all_sheets, fits, good_leaf, good_name, good_sheet, leaves
from tests.paper import (
    BAD_FOLDS, BAD_LAYS, BAD_NAMES, BAD_SHEETS, COUNT, FOLDS, LAYS, LETTERS, SIGNS, folded_pile, told_leaves,
    told_pairs,
)

NAMES = ("a", "z", "ox", "crown", "abcdefgh", "zzzzzzzz", "aaaaaaab")
PARTS = sorted({part for folds in FOLDS for lay in LAYS for side, part in told_pairs(folds, lay)})


class GoodName(unittest.TestCase):
    def test_good_names(self):
        for name in NAMES + tuple(LETTERS):
            self.assertIs(good_name(name), True)
        for many in range(1, 9):
            for letter in LETTERS:
                self.assertIs(good_name(letter * many), True)

    def test_too_few_or_too_many_letters(self):
        self.assertIs(good_name(""), False)
        for many in (9, 10, 16, 1000):
            self.assertIs(good_name("a" * many), False)

    def test_one_other_sign_at_each_place(self):
        for sign in SIGNS:
            for many in range(1, 9):
                for place in range(many):
                    name = "k" * place + sign + "k" * (many - 1 - place)
                    self.assertIs(good_name(name), sign in LETTERS, name)

    def test_bad_names(self):
        for name in BAD_NAMES:
            self.assertIs(good_name(name), False, name)


class GoodSheet(unittest.TestCase):
    def test_all_folds_and_lays(self):
        for name in NAMES:
            for folds in FOLDS:
                for lay in LAYS:
                    self.assertIs(good_sheet((name, folds, lay)), True)

    def test_bad_folds(self):
        for folds in BAD_FOLDS:
            for lay in LAYS:
                self.assertIs(good_sheet(("ab", folds, lay)), False)

    def test_bad_lays(self):
        for lay in BAD_LAYS:
            for folds in FOLDS:
                self.assertIs(good_sheet(("ab", folds, lay)), False)

    def test_bad_names(self):
        for name in BAD_NAMES:
            for folds in FOLDS:
                for lay in LAYS:
                    self.assertIs(good_sheet((name, folds, lay)), False)

    def test_all_of_it_bad(self):
        self.assertIs(good_sheet(("", 0, 4)), False)

    def test_true_and_false_are_no_numbers(self):
        for sheet in (("ab", True, 0), ("ab", 1, True), ("ab", 1, False), ("ab", True, False), ("ab", False, 0)):
            self.assertIs(good_sheet(sheet), False)
            with self.assertRaises(BadSheet):
                leaves(sheet)


class Leaves(unittest.TestCase):
    def test_each_sheet(self):
        for name in NAMES:
            for folds in FOLDS:
                for lay in LAYS:
                    with self.subTest(name=name, folds=folds, lay=lay):
                        self.assertEqual(leaves((name, folds, lay)), told_leaves((name, folds, lay)))

    def test_by_hand(self):
        self.assertEqual(leaves(("ox", 1, 0)), [("f", "ox", "abcd"), ("m", "", "")])
        self.assertEqual(leaves(("ox", 2, 3)), [("m", "ox", "ab"), ("f", "ox", "cd"), ("m", "", ""), ("f", "", "")])
        self.assertEqual(leaves(("ox", 3, 0)), [
            ("f", "", ""), ("m", "ox", "d"), ("f", "ox", "b"), ("m", "", ""),
            ("f", "", ""), ("m", "ox", "a"), ("f", "ox", "c"), ("m", "", ""),
        ])

    def test_all_quarters_are_there_once(self):
        for folds in FOLDS:
            for lay in LAYS:
                told = leaves(("ox", folds, lay))
                self.assertEqual(sorted("".join(part for side, mould, part in told)), list("abcd"))

    def test_mates_show_unlike_sides(self):
        for folds in FOLDS:
            for lay in LAYS:
                told = leaves(("ox", folds, lay))
                for leaf in range(COUNT[folds]):
                    self.assertNotEqual(told[leaf][0], told[COUNT[folds] - 1 - leaf][0])

    def test_each_row_of_cells_has_its_quarters(self):
        for folds in FOLDS:
            for lay in LAYS:
                rows = {}
                for (row, column, over), leaf in zip(folded_pile(folds), leaves(("ox", folds, lay)), strict=True):
                    rows[row] = rows.get(row, "") + leaf[2]
                found = sorted("".join(sorted(quarters)) for quarters in rows.values())
                self.assertEqual(found, ["abcd"] if folds == 1 else ["ab", "cd"])

    def test_leaves_cells_mates_parts_and_sides_agree(self):
        for folds in FOLDS:
            for lay in LAYS:
                told = leaves(("ox", folds, lay))
                cells = pile(folds)
                self.assertEqual(len(told), count(folds))
                for leaf, (up, mould, quarters) in enumerate(told):
                    row, column, over = cells[leaf]
                    self.assertEqual(leaf_at(folds, row, column), leaf)
                    self.assertEqual(spread(folds, lay)[row][column], quarters)
                    self.assertEqual((side(folds, lay, leaf), part(folds, lay, leaf)), (up, quarters))
                    self.assertEqual(leaf in bearers(folds, lay), mould == "ox")
                    self.assertEqual(up == told[mate(folds, leaf)][0], over == cells[mate(folds, leaf)][2])
                self.assertIn(lay, lays_by(folds, [(up, quarters) for up, mould, quarters in told]))

    def test_kinds(self):
        for folds in FOLDS:
            told = leaves(("ox", folds, 1))
            self.assertIs(type(told), list)
            for leaf in told:
                self.assertIs(type(leaf), tuple)
                self.assertEqual([type(thing) for thing in leaf], [str, str, str])

    def test_told_list_is_new(self):
        for folds in FOLDS:
            for lay in LAYS:
                told = leaves(("ox", folds, lay))
                told[0] = ("?", "?", "?")
                told.pop()
                told.append("gone")
                self.assertEqual(leaves(("ox", folds, lay)), told_leaves(("ox", folds, lay)))

    def test_each_leaf_is_a_seen_leaf(self):
        for sheet in all_sheets(["ox"]):
            for leaf in leaves(sheet):
                self.assertIs(good_leaf(leaf), True)

    def test_bad_sheet(self):
        for sheet in BAD_SHEETS:
            with self.assertRaises(BadSheet):
                leaves(sheet)


class AllSheets(unittest.TestCase):
    def test_of_one_two_and_three_names(self):
        for many in (1, 2, 3):
            for moulds in itertools.permutations(("ox", "a", "oxen", "zzzzzzzz"), many):
                handed = list(moulds)
                told = all_sheets(handed)
                expected = {(name, folds, lay) for name in moulds for folds in FOLDS for lay in LAYS}
                self.assertEqual(told, sorted(expected))
                self.assertEqual(len(told), 12 * many)
                self.assertEqual(handed, list(moulds))

    def test_kinds(self):
        told = all_sheets(["ox"])
        self.assertIs(type(told), list)
        for sheet in told:
            self.assertIs(type(sheet), tuple)
            self.assertEqual([type(thing) for thing in sheet], [str, int, int])

    def test_told_list_is_new(self):
        for moulds in (["ox"], ["ox", "a"]):
            kept = list(all_sheets(moulds))
            told = all_sheets(moulds)
            told[0] = ("gone", 1, 1)
            told.pop()
            told.append("gone")
            self.assertEqual(all_sheets(moulds), kept)

    def refuse(self, moulds):
        handed = list(moulds)
        with self.assertRaises(BadMould):
            all_sheets(handed)
        self.assertEqual(handed, list(moulds))

    def test_none_or_too_many(self):
        self.refuse([])
        self.refuse(["a", "b", "c", "d"])
        self.refuse(["a", "b", "c", "d", "e"])

    def test_one_name_twice(self):
        self.refuse(["a", "a"])
        for moulds in (["a", "a", "b"], ["a", "b", "a"], ["b", "a", "a"], ["a", "a", "a"]):
            self.refuse(moulds)

    def test_four_of_two_names(self):
        self.refuse(["a", "b", "a", "b"])

    def test_a_bad_name_at_each_place(self):
        for name in BAD_NAMES:
            for good in ([], ["a"], ["a", "b"]):
                for place in range(len(good) + 1):
                    self.refuse(good[:place] + [name] + good[place:])


class GoodLeaf(unittest.TestCase):
    def test_parts_that_leaves_have(self):
        self.assertEqual(PARTS, sorted(["", "a", "b", "c", "d", "ab", "cd", "abcd"]))

    def test_looked_at_mould_and_part(self):
        for side in ("m", "f", "?"):
            for name in NAMES:
                for part in PARTS:
                    self.assertIs(good_leaf((side, name if part else "", part)), True)

    def test_neither_mould_nor_part_looked_at(self):
        for side in ("m", "f", "?"):
            self.assertIs(good_leaf((side, "?", "?")), True)

    def test_a_side_and_a_part_that_no_leaf_has_both(self):
        whole = {leaf for folds in FOLDS for lay in LAYS for leaf in told_leaves(("ox", folds, lay))}
        unlike = [(side, "ox", part) for side in "mf" for part in PARTS if part and (side, "ox", part) not in whole]
        self.assertTrue(unlike)
        for seen in unlike:
            self.assertIs(good_leaf(seen), True)

    def test_mould_alone_or_part_alone_not_looked_at(self):
        for side in ("m", "f", "?"):
            for part in PARTS:
                self.assertIs(good_leaf((side, "?", part)), False)
            for name in NAMES + ("",):
                self.assertIs(good_leaf((side, name, "?")), False)

    def test_mould_without_part_and_part_without_mould(self):
        for side in ("m", "f", "?"):
            for part in PARTS:
                self.assertIs(good_leaf((side, "", part)), part == "")
            for name in NAMES:
                self.assertIs(good_leaf((side, name, "")), False)

    def test_every_text_of_quarters_as_a_part(self):
        texts = ["".join(signs) for many in range(6) for signs in itertools.product("abcd", repeat=many)]
        for part in texts:
            for side in ("m", "f", "?"):
                self.assertIs(good_leaf((side, "ox", part)), part in PARTS and part != "", part)

    def test_other_parts(self):
        for part in ("A", "AB", "e", "abcde", "ab ", " ab", "ab\n", "a?", "?a", "??", " ", "\n", "m", "f", "ox"):
            for mould in ("ox", "", "?"):
                self.assertIs(good_leaf(("m", mould, part)), False)
        for sign in SIGNS:
            self.assertIs(good_leaf(("m", "ox", sign)), sign in "abcd")
            self.assertIs(good_leaf(("m", "ox", "ab" + sign)), False)
            self.assertIs(good_leaf(("m", "ox", sign + "cd")), False)

    def test_other_moulds(self):
        for side in ("m", "f", "?"):
            for name in BAD_NAMES + ("??",):
                for part in PARTS + ["?"]:
                    together = (name, part) in (("", ""), ("?", "?"))
                    self.assertIs(good_leaf((side, name, part)), together)

    def test_other_sides(self):
        for side in tuple(SIGNS) + ("", "mf", "fm", "mm", "m ", " m", "m?", "??", "mould", "felt"):
            for mould, part in (("ox", "ab"), ("", ""), ("?", "?")):
                self.assertIs(good_leaf((side, mould, part)), side in ("m", "f", "?"), side)


class Fits(unittest.TestCase):
    LEAVES = [("m", "", ""), ("f", "", "")] + [
        (side, name, part)
        for side in "mf" for name in ("ox", "crown", "oxen") for part in ("a", "b", "ab", "cd", "abcd")
    ]

    def test_all_looked_at(self):
        for seen in self.LEAVES:
            for leaf in self.LEAVES:
                self.assertIs(fits(seen, leaf), seen == leaf)

    def test_side_not_looked_at(self):
        for side, mould, part in self.LEAVES:
            for leaf in self.LEAVES:
                self.assertIs(fits(("?", mould, part), leaf), (mould, part) == leaf[1:])

    def test_mould_and_part_not_looked_at(self):
        for side in "mf":
            for leaf in self.LEAVES:
                self.assertIs(fits((side, "?", "?"), leaf), side == leaf[0])

    def test_nothing_looked_at(self):
        for leaf in self.LEAVES:
            self.assertIs(fits(("?", "?", "?"), leaf), True)

    def test_one_thing_unlike(self):
        leaf = ("m", "ox", "ab")
        self.assertIs(fits(("m", "ox", "ab"), leaf), True)
        self.assertIs(fits(("f", "ox", "ab"), leaf), False)
        self.assertIs(fits(("m", "oxen", "ab"), leaf), False)
        self.assertIs(fits(("m", "ox", "cd"), leaf), False)
        self.assertIs(fits(("m", "ox", "a"), leaf), False)
        self.assertIs(fits(("m", "", ""), leaf), False)
        self.assertIs(fits(("?", "", ""), leaf), False)
