"""Makings: gatherings of sheets that have lost some of their leaves, and the row of the leaves that are left."""

from leafmate.folds import count
from leafmate.gatherings import laid, shown
from leafmate.numbers import is_number
from leafmate.sheets import check_moulds, check_seen, fits, good_sheet


def is_making(moulds, making):
    """Whether this is a making of these moulds."""
    check_moulds(moulds)
    return all(good_gathering(moulds, gathering) for gathering in making)


def good_gathering(moulds, gathering):
    """Whether a making of these moulds can have this gathering."""
    return len(gathering) > 0 and all(good_pair(moulds, sheet, gone) for sheet, gone in gathering)


def good_pair(moulds, sheet, gone):
    """Whether this is a sheet of these moulds that can have lost just these leaves."""
    if not good_sheet(sheet):
        return False
    mould, folds, lay = sheet
    return mould in moulds and good_loss(count(folds), gone)


def good_loss(size, gone):
    """Whether a sheet of so many leaves can have lost just these."""
    if not all(is_number(leaf) for leaf in gone):
        return False
    # Where the leaves rise from one ahead of the first to one behind the last, all of them are in the sheet.
    bounds = [-1, *gone, size]
    return len(gone) < size and all(low < high for low, high in zip(bounds, bounds[1:]))


def lets(row, moulds, making):
    """Whether this is a making of these moulds that lets the row of seen leaves by."""
    check_moulds(moulds)
    check_seen(row)
    if not is_making(moulds, making):
        return False
    left = row_of(making)
    return len(left) == len(row) and all(fits(seen, leaf) for seen, leaf in zip(row, left))


def lost(making):
    """How many leaves the making loses."""
    return sum(len(gone) for gathering in making for sheet, gone in gathering)


def row_of(making):
    """The list of the leaves (side, mould, part) that are not lost, as they lie."""
    left = []
    for gathering in making:
        told = shown(sheets_of(gathering))
        left.extend([leaf for leaf, away in zip(told, lost_places(gathering)) if not away])
    return left


def sheets_of(gathering):
    """The list of the sheets of a gathering of a making."""
    return [sheet for sheet, gone in gathering]


def lost_places(gathering):
    """For each leaf of a gathering of a making, as they lie, whether it is lost."""
    return [leaf in gathering[sheet][1] for sheet, leaf in laid(sheets_of(gathering))]


def steps(making):
    """The list of the deeds that bring a new book to this making."""
    gathers = [("gather",) + tuple(sheets_of(gathering)) for gathering in making]
    # A new book numbers its leaves as they come to lie, gathering behind gathering.
    places = [away for gathering in making for away in lost_places(gathering)]
    tears = [("tear", leaf) for leaf, away in enumerate(places) if away]
    return gathers + tears
