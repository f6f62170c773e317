"""Moulds, sheets and leaves: their names, what is told of them, and what was seen of a leaf."""

from leafmate.errors import BadLeaf, BadMould, BadSheet
from leafmate.folds import count, good_folds
from leafmate.marks import good_lay, part, side
from leafmate.numbers import is_number

LETTERS = "abcdefghijklmnopqrstuvwxyz"

# The parts, but the empty one, that leaves have: of sheets folded once, twice and three times.
PARTS = ("abcd", "ab", "cd", "a", "b", "c", "d")

# Stands in a seen leaf for what was not looked at.
UNSEEN = "?"


def good_name(name):
    """Whether a mould can have this name."""
    return 1 <= len(name) <= 8 and all(sign in LETTERS for sign in name)


def check_moulds(moulds):
    """Refuse with BadMould."""
    if not 1 <= len(moulds) <= 3:
        raise BadMould("there are 1 to 3 moulds")
    if not all(good_name(name) for name in moulds):
        raise BadMould("the name of a mould has 1 to 8 letters a to z")
    if len(set(moulds)) < len(moulds):
        raise BadMould("no two moulds have the same name")


def good_sheet(sheet):
    """Whether this is a sheet of some mould."""
    mould, folds, lay = sheet
    if not is_number(folds) or not is_number(lay):
        return False
    return good_name(mould) and good_folds(folds) and good_lay(lay)


def check_sheet(sheet):
    """Refuse with BadSheet."""
    if not good_sheet(sheet):
        raise BadSheet("this is no sheet")


def leaves(sheet):
    """The list of the sheet's leaves (side, mould, part), the uppermost one of the pile first."""
    check_sheet(sheet)
    mould, folds, lay = sheet
    return [told_leaf(mould, side(folds, lay, leaf), part(folds, lay, leaf)) for leaf in range(count(folds))]


def told_leaf(mould, up, quarters):
    """The leaf as it is told: without any of the mark nobody can tell its mould."""
    return up, (mould if quarters else ""), quarters


def all_sheets(moulds):
    """The list of all sheets of these moulds, rising."""
    check_moulds(moulds)
    return [(mould, folds, lay) for mould in sorted(moulds) for folds in range(1, 4) for lay in range(4)]


def good_leaf(seen):
    """Whether this is a seen leaf."""
    up, mould, quarters = seen
    return up in ("m", "f", UNSEEN) and good_mark(mould, quarters)


def good_mark(mould, quarters):
    """Whether a seen leaf can have this mould and this part."""
    # The mould is read off the mark: both were looked at or neither, and both are there or neither.
    if mould in ("", UNSEEN):
        return quarters == mould
    return good_name(mould) and quarters in PARTS


def check_seen(row):
    """Refuse with BadLeaf where one of the row is no seen leaf."""
    if not all(good_leaf(seen) for seen in row):
        raise BadLeaf("one of the row is no seen leaf")


def fits(seen, leaf):
    """Whether the leaf has all that was looked at in the seen one."""
    return all(looked in (UNSEEN, thing) for looked, thing in zip(seen, leaf))
