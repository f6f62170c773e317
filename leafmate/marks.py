"""Where the mark of the mould and the two sides of a sheet come to lie on its leaves."""

from leafmate.errors import BadLay
from leafmate.folds import check_folds, check_leaf, count, grid, pile

# The quarters of the mark with row and column of their fields in lay 0, in the order of the letters.
QUARTERS = (("a", 0, 0), ("b", 0, 1), ("c", 1, 0), ("d", 1, 1))

# For each lay the side that is up, then the one that is down.
SIDES = (("m", "f"), ("m", "f"), ("f", "m"), ("f", "m"))


def good_lay(lay):
    """Whether a sheet can lie so."""
    return 0 <= lay <= 3


def check_lay(folds, lay):
    """Refuse with BadFolds, BadLay."""
    check_folds(folds)
    if not good_lay(lay):
        raise BadLay("lays are from 0 to 3")


def field_in(lay, row, column):
    """The field in which this lay has what lay 0 has in (row, column)."""
    if lay == 1 or lay == 3:
        row = 1 - row
    if lay == 1 or lay == 2:
        column = 3 - column
    return row, column


def part(folds, lay, leaf):
    """The text of the quarters on the leaf."""
    check_lay(folds, lay)
    check_leaf(folds, leaf)
    row, column, over = pile(folds)[leaf]
    return spread(folds, lay)[row][column]


def side(folds, lay, leaf):
    """The side of the leaf that lies up in the pile."""
    check_lay(folds, lay)
    check_leaf(folds, leaf)
    up, down = SIDES[lay]
    row, column, over = pile(folds)[leaf]
    return down if over else up


def spread(folds, lay):
    """For each row of cells the list of their parts, as the sheet lies on the table."""
    check_lay(folds, lay)
    rows, columns = grid(folds)
    parts = [[""] * columns for row in range(rows)]
    for letter, home_row, home_column in QUARTERS:
        row, column = field_in(lay, home_row, home_column)
        # Two rows of four fields are shared out evenly among the cells.
        parts[row * rows // 2][column * columns // 4] += letter
    return parts


def bearers(folds, lay):
    """The list of the leaves that have some of the mark, rising."""
    check_lay(folds, lay)
    return [leaf for leaf in range(count(folds)) if part(folds, lay, leaf)]


def lays_by(folds, told):
    """The list of the lays, rising, in which the leaves have just the told pairs (side, part)."""
    check_folds(folds)
    return [lay for lay in range(4) if told_by(folds, lay) == told]


def told_by(folds, lay):
    """The list of the pairs (side, part) of the leaves."""
    return [(side(folds, lay, leaf), part(folds, lay, leaf)) for leaf in range(count(folds))]
