"""How one sheet can lie around a stretch of a row: which of its leaves are kept as the seen ones at both ends."""

from leafmate.folds import count
from leafmate.rows import hurt, ruled
from leafmate.sheets import all_sheets, fits, leaves


def ways_around(row, moulds, rule):
    """For each stretch (i, j), i less than j, the ways to lay a sheet of the moulds around it without hurting the rule.

    They are a dict. A key (x, y, lost) tells how many leaves are kept of the first half, how many of the second half,
    and how many are lost; its value is how many such ways there are, and one of them: a sheet and its lost leaves.
    """
    ends = len(row) + 1
    halves = [kept_halves(row, sheet, rule) for sheet in all_sheets(moulds)]
    return {(i, j): outermost(halves, i, j, rule) for i in range(ends) for j in range(i + 1, ends)}


def kept_halves(row, sheet, rule):
    """The sheet; for each place of the row the groups of its first half kept from there on; of its second up to it."""
    told = list(enumerate(leaves(sheet)))
    middle = len(told) // 2
    ends = len(row) + 1
    firsts = [grouped(kept_from(row, told[:middle], place), rule) for place in range(ends)]
    seconds = [grouped(kept_up_to(row, told[middle:], place), rule) for place in range(ends)]
    return sheet, firsts, seconds


def kept_from(row, half, place):
    """The list of all (place, leaves of the half) that fit the seen leaves from the place on."""
    found = [()]
    for number, leaf in half:
        found = found + [(*kept, number) for kept in found if fits_at(row, place + len(kept), leaf)]
    return [(place, kept) for kept in found]


def kept_up_to(row, half, place):
    """The list of all (place of the first, leaves of the half) that fit the seen leaves ahead of the place."""
    found = [()]
    for number, leaf in half[::-1]:
        found = found + [(number, *kept) for kept in found if fits_at(row, place - 1 - len(kept), leaf)]
    return [(place - len(kept), kept) for kept in found]


def fits_at(row, place, leaf):
    """Whether the row has a seen leaf there, and it fits."""
    return 0 <= place < len(row) and fits(row[place], leaf)


def grouped(found, rule):
    """The kept leaves in groups: all that matters of them is how many they are, and what the rule speaks of.

    A dict: of (how many are kept, as which of them each seen leaf of the rule is kept) to (how many such, one of them).
    """
    groups = {}
    for start, kept in found:
        key = (len(kept), tuple(kept_as(start, kept, seen) for seen in ruled(rule)))
        many, first = groups.get(key, (0, kept))
        groups[key] = (many + 1, first)
    return groups


def kept_as(start, kept, seen):
    """The leaf that is kept as the seen one of this number, or None."""
    return kept[seen - start] if start <= seen < start + len(kept) else None


def outermost(halves, i, j, rule):
    """The ways to lay a sheet around the stretch (i, j)."""
    ways = {}
    for sheet, firsts, seconds in halves:
        mould, folds, lay = sheet
        size = count(folds)
        for (x, begun), (many, kept) in firsts[i].items():
            for (y, ended), (times, others) in seconds[j].items():
                if 1 <= x + y <= j - i and not hurt(rule, begun, ended, size):
                    key = (x, y, size - x - y)
                    before, way = ways.get(key) or (0, (sheet, left_out(size, kept + others)))
                    ways[key] = (before + many * times, way)
    return ways


def left_out(size, kept):
    """The tuple of the leaves that are not kept."""
    return tuple(leaf for leaf in range(size) if leaf not in kept)
