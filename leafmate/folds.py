"""Sheets folded once, twice or three times: their cells, and the leaves of the pile."""

from leafmate.errors import BadFolds, NoCell, NoLeaf

# For each count of folds: how many rows of cells, how many columns.
GRIDS = {1: (1, 2), 2: (2, 2), 3: (2, 4)}

# For each count of folds the leaves from the uppermost on: row and column of the cell, and whether it is over.
# Folding is the same for every sheet, so what it leaves is written down; the tests fold step by step against it.
PILES = {
    1: ((0, 0, True), (0, 1, False)),
    2: ((1, 0, True), (0, 0, False), (0, 1, True), (1, 1, False)),
    3: (
        (1, 2, True), (1, 1, False), (0, 1, True), (0, 2, False),
        (0, 3, True), (0, 0, False), (1, 0, True), (1, 3, False),
    ),
}


def good_folds(folds):
    """Whether a sheet can be folded so often."""
    return 1 <= folds <= 3


# Numbers of any size are refused, and Python writes out none of very many digits: so no message here has the number.
def check_folds(folds):
    """Refuse with BadFolds."""
    if not good_folds(folds):
        raise BadFolds("folds are from 1 to 3")


def check_leaf(folds, leaf):
    """Refuse with BadFolds, NoLeaf."""
    check_folds(folds)
    if leaf < 0 or leaf >= len(PILES[folds]):
        raise NoLeaf("the sheet has no such leaf")


def grid(folds):
    """How many rows of cells, how many columns."""
    check_folds(folds)
    return GRIDS[folds]


def count(folds):
    """How many leaves."""
    check_folds(folds)
    return len(PILES[folds])


def pile(folds):
    """The list of (row, column, over) of the leaves' cells, the uppermost leaf first."""
    check_folds(folds)
    return list(PILES[folds])


def leaf_at(folds, row, column):
    """The number of the leaf that is this cell."""
    check_folds(folds)
    for leaf, cell in enumerate(PILES[folds]):
        if cell[:2] == (row, column):
            return leaf
    raise NoCell("the sheet has no such cell")


def mate(folds, leaf):
    """The number of the leaf that hangs together with this one."""
    check_leaf(folds, leaf)
    return count(folds) - 1 - leaf
