"""Gatherings: sheets laid into one another, the outermost first."""

from leafmate.errors import NoSheets
from leafmate.folds import count
from leafmate.sheets import check_sheet, leaves


def check_sheets(sheets):
    """Refuse with NoSheets, BadSheet."""
    if not sheets:
        raise NoSheets("a gathering has one sheet at least")
    for sheet in sheets:
        check_sheet(sheet)


def laid(sheets):
    """The list of pairs (number of the sheet, number of its leaf) as the leaves lie."""
    check_sheets(sheets)
    counts = [count(folds) for mould, folds, lay in sheets]
    inwards = list(range(len(sheets)))
    first = [(sheet, leaf) for sheet in inwards for leaf in range(counts[sheet] // 2)]
    second = [(sheet, leaf) for sheet in inwards[::-1] for leaf in range(counts[sheet] // 2, counts[sheet])]
    return first + second


def mates(sheets):
    """For each place the place of the mate."""
    # Each sheet lies around all that is within it, and mates lie equally far from the ends of their sheet:
    # so they lie equally far from the ends of the gathering, too.
    return list(range(len(laid(sheets))))[::-1]


def shown(sheets):
    """The list of the leaves (side, mould, part) as they lie."""
    places = laid(sheets)
    told = [leaves(sheet) for sheet in sheets]
    return [told[sheet][leaf] for sheet, leaf in places]
