"""The fewest leaves that a row of seen leaves has lost, and a making that loses no more."""

from leafmate.errors import NoMaking
from leafmate.rows import check_asked
from leafmate.stretches import least_lost
from leafmate.ways import ways_around


def reckoned(row, moulds, rule):
    """The ways around each stretch, the fewest lost of each stretch, the fewest lost ahead of each place.

    Refuse with BadMould, BadRow, BadLeaf, BadRule, NoMaking.
    """
    check_asked(row, moulds, rule)
    ways = ways_around(row, moulds, rule)
    # A sheet loses at most 7 leaves and keeps one of the row at least: so a making loses at most 7 for each of these.
    bound = 7 * len(row) + 1
    least, starts = least_lost(ways, len(row), bound)
    if starts[-1] == bound:
        raise NoMaking("no making lets the row by and keeps the rule")
    return ways, least, starts


def fewest(row, moulds, rule=None):
    """How many leaves are lost at least."""
    ways, least, starts = reckoned(row, moulds, rule)
    return starts[-1]


def making(row, moulds, rule=None):
    """A making that loses the fewest."""
    ways, least, starts = reckoned(row, moulds, rule)
    gatherings = []
    end = len(row)
    while end > 0:
        start = last_start(least, starts, end)
        gatherings.append(gathering_of(ways, least, start, end))
        end = start
    return gatherings[::-1]


def last_start(least, starts, end):
    """Where the last gathering ahead of this place can begin so that the fewest are lost."""
    return [start for start in range(end) if starts[start] + least[start, end] == starts[end]][0]


def gathering_of(ways, least, start, end):
    """A gathering that loses the fewest of this stretch."""
    sheets = []
    while start < end:
        x, y, way = good_way(ways, least, start, end)
        sheets.append(way)
        start += x
        end -= y
    return sheets


def good_way(ways, least, start, end):
    """How many leaves a sheet around this stretch keeps in both halves where the fewest are lost, and such a way."""
    around = ways[start, end]
    return [
        (x, y, way) for (x, y, lost), (many, way) in around.items()
        if lost + least[start + x, end - y] == least[start, end]
    ][0]
