"""A sheet of eight fields, folded field by field as points [2] to [6] say, and gatherings of such sheets.

Nothing here comes from the package: the tests hold the package against it.
"""

FOLDS = (1, 2, 3)
LAYS = (0, 1, 2, 3)
# Python writes out no number of so many digits, so a message must not try to.
FAR = 10 ** 5000
BAD_FOLDS = (0, 4, -1, -2, 5, 99, -99, FAR, -FAR)
BAD_LAYS = (-1, 4, -2, 5, 99, -99, FAR, -FAR)

# All signs that texts have.
SIGNS = "".join(chr(code) for code in range(32, 127) if code != 37) + "\n"
LETTERS = "abcdefghijklmnopqrstuvwxyz"
BAD_NAMES = (
    "", "abcdefghi", "a" * 100, "A", "Abc", "abC", "a1", "1", "a b", " ab", "ab ", "ab\n", "\n", "?", "a?", "a-b",
)
BAD_SHEETS = tuple(
    [("ab", folds, 0) for folds in BAD_FOLDS] + [("ab", 3, lay) for lay in BAD_LAYS]
    + [(name, 1, 0) for name in BAD_NAMES] + [("", 0, 4)]
)

UPPER_OVER_LOWER = 0
LEFT_OVER_RIGHT = 1
STEPS = {
    1: [LEFT_OVER_RIGHT],
    2: [UPPER_OVER_LOWER, LEFT_OVER_RIGHT],
    3: [LEFT_OVER_RIGHT, UPPER_OVER_LOWER, LEFT_OVER_RIGHT],
}
GRID = {1: (1, 2), 2: (2, 2), 3: (2, 4)}
COUNT = {1: 2, 2: 4, 3: 8}

HOME = {"a": (0, 0), "b": (0, 1), "c": (1, 0), "d": (1, 1)}
MOVED = {
    0: lambda r, c: (r, c),
    1: lambda r, c: (1 - r, 3 - c),
    2: lambda r, c: (r, 3 - c),
    3: lambda r, c: (1 - r, c),
}
SIDE_UP = {0: "m", 1: "m", 2: "f", 3: "f"}


def fold_over(piles, axis):
    """Fold the half with the lower rows (axis 0) or columns (axis 1) over the other."""
    ends = min(spot[axis] for spot in piles) + max(spot[axis] for spot in piles)
    folded = {}
    for spot, below in piles.items():
        if 2 * spot[axis] > ends:
            across = list(spot)
            across[axis] = ends - spot[axis]
            above = [(field, turns + 1) for field, turns in reversed(piles[tuple(across)])]
            folded[spot] = above + below
    return folded


def folded_leaves(folds):
    """For each leaf from the uppermost on: the set of its fields, and whether it is over."""
    piles = {(r, c): [((r, c), 0)] for r in range(2) for c in range(4)}
    for axis in STEPS[folds]:
        piles = fold_over(piles, axis)
    leaves = []
    for layer in zip(*piles.values(), strict=True):
        turned = {turns % 2 == 1 for field, turns in layer}
        assert len(turned) == 1
        leaves.append(({field for field, turns in layer}, turned.pop()))
    return leaves


def folded_pile(folds):
    """(row, column, over) of each leaf's cell, rows and columns counted among the cells."""
    corners = [(min(fields), over) for fields, over in folded_leaves(folds)]
    rows = sorted({r for (r, c), over in corners})
    columns = sorted({c for (r, c), over in corners})
    return [(rows.index(r), columns.index(c), over) for (r, c), over in corners]


def told_pairs(folds, lay):
    """(side, part) of each leaf."""
    other = {"m": "f", "f": "m"}
    pairs = []
    for fields, over in folded_leaves(folds):
        side = other[SIDE_UP[lay]] if over else SIDE_UP[lay]
        part = "".join(q for q in "abcd" if MOVED[lay](*HOME[q]) in fields)
        pairs.append((side, part))
    return pairs


def told_leaves(sheet):
    """(side, mould, part) of each leaf of a sheet."""
    mould, folds, lay = sheet
    return [(side, mould if part != "" else "", part) for side, part in told_pairs(folds, lay)]


def nested(sheets):
    """(number of the sheet, number of its leaf) as they lie: each sheet put into the middle of what is there."""
    pile = []
    for number, (mould, folds, lay) in enumerate(sheets):
        middle = len(pile) // 2
        pile[middle:middle] = [(number, leaf) for leaf in range(COUNT[folds])]
    return pile
