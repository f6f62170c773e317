import unittest

from leafmate.errors import BadFolds, NoCell, NoLeaf
from leafmate.folds import count, grid, leaf_at, mate, pile
from tests.paper import BAD_FOLDS, COUNT, FAR, FOLDS, GRID, folded_pile


class Pile(unittest.TestCase):
    def test_grid(self):
        for folds in FOLDS:
            self.assertEqual(grid(folds), GRID[folds])
            self.assertIs(type(grid(folds)), tuple)

    def test_count(self):
        for folds in FOLDS:
            self.assertEqual(count(folds), COUNT[folds])
            self.assertIs(type(count(folds)), int)

    def test_pile_is_what_folding_leaves(self):
        for folds in FOLDS:
            self.assertEqual(pile(folds), folded_pile(folds))

    def test_pile_folded_by_hand(self):
        self.assertEqual(pile(1), [(0, 0, True), (0, 1, False)])
        self.assertEqual(pile(2), [(1, 0, True), (0, 0, False), (0, 1, True), (1, 1, False)])
        self.assertEqual(pile(3), [
            (1, 2, True), (1, 1, False), (0, 1, True), (0, 2, False),
            (0, 3, True), (0, 0, False), (1, 0, True), (1, 3, False),
        ])

    def test_kinds_within_the_pile(self):
        for folds in FOLDS:
            self.assertIs(type(pile(folds)), list)
            for leaf in pile(folds):
                self.assertIs(type(leaf), tuple)
                self.assertEqual([type(thing) for thing in leaf], [int, int, bool])

    def test_told_pile_is_new(self):
        for folds in FOLDS:
            told = pile(folds)
            told[0] = (9, 9, False)
            told.pop()
            told.pop()
            told.append("gone")
            self.assertEqual(pile(folds), folded_pile(folds))


class LeafAt(unittest.TestCase):
    def test_each_cell(self):
        for folds in FOLDS:
            for leaf, (row, column, over) in enumerate(folded_pile(folds)):
                self.assertEqual(leaf_at(folds, row, column), leaf)
                self.assertIs(type(leaf_at(folds, row, column)), int)

    def test_no_cell(self):
        for folds in FOLDS:
            rows, columns = GRID[folds]
            bad_rows = (-1, -2, -rows, rows, rows + 1, FAR, -FAR)
            bad_columns = (-1, -2, -columns, columns, columns + 1, FAR, -FAR)
            spots = [(row, column) for row in bad_rows for column in range(columns)]
            spots += [(row, column) for row in range(rows) for column in bad_columns]
            spots += [(row, column) for row in bad_rows for column in bad_columns]
            for row, column in spots:
                with self.assertRaises(NoCell):
                    leaf_at(folds, row, column)


class Mate(unittest.TestCase):
    def test_each_leaf(self):
        self.assertEqual([mate(1, leaf) for leaf in range(2)], [1, 0])
        self.assertEqual([mate(2, leaf) for leaf in range(4)], [3, 2, 1, 0])
        self.assertEqual([mate(3, leaf) for leaf in range(8)], [7, 6, 5, 4, 3, 2, 1, 0])

    def test_mates_lie_beside_one_another_on_the_sheet(self):
        for folds in FOLDS:
            cells = folded_pile(folds)
            for leaf, (row, column, over) in enumerate(cells):
                mate_row, mate_column, mate_over = cells[mate(folds, leaf)]
                self.assertEqual(mate_row, row)
                self.assertEqual(abs(mate_column - column), 1)

    def test_no_leaf(self):
        for folds in FOLDS:
            for leaf in (-1, -2, -COUNT[folds], COUNT[folds], COUNT[folds] + 1, FAR, -FAR):
                with self.assertRaises(NoLeaf):
                    mate(folds, leaf)


class Folds(unittest.TestCase):
    def test_bad_folds(self):
        for folds in BAD_FOLDS:
            for ask in (grid, count, pile):
                with self.assertRaises(BadFolds):
                    ask(folds)
            with self.assertRaises(BadFolds):
                leaf_at(folds, 0, 0)
            with self.assertRaises(BadFolds):
                mate(folds, 0)

    def test_bad_folds_ahead_of_all_else(self):
        for folds in BAD_FOLDS:
            for wrong in (-1, 8, FAR, -FAR):
                with self.assertRaises(BadFolds):
                    leaf_at(folds, wrong, wrong)
                with self.assertRaises(BadFolds):
                    mate(folds, wrong)
