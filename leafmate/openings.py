"""Where the leaves of a row do not go on: breaks, and the runs between them."""

from leafmate.sheets import UNSEEN, check_seen


def breaks(row):
    """The list of the numbers, rising, of the leaves behind which there is a break."""
    check_seen(row)
    sides = [up for up, mould, quarters in row]
    return [k for k in range(len(sides) - 1) if sides[k] == sides[k + 1] and sides[k] != UNSEEN]


def runs(row):
    """The list of the pairs (number of the first leaf, number behind the last one) between the breaks."""
    cuts = [k + 1 for k in breaks(row)]
    if not row:
        return []
    return list(zip([0, *cuts], [*cuts, len(row)]))
