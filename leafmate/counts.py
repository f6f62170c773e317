"""How many makings lose the fewest leaves of a row, and whether two seen leaves are mates in them."""

from leafmate.errors import NoPlace, SameOne
from leafmate.fewest import fewest, making, reckoned
from leafmate.papers import paper
from leafmate.rows import APART, MATES, check_row, good_place


def many(row, moulds, rule=None):
    """How many makings lose just the fewest."""
    ways, least, starts = reckoned(row, moulds, rule)
    times = stretch_times(ways, least, len(row))
    ahead = [1]
    for j in range(1, len(starts)):
        ahead.append(sum(ahead[i] * times[i, j] for i in range(j) if starts[i] + least[i, j] == starts[j]))
    return ahead[-1]


def stretch_times(ways, least, size):
    """For each stretch of a row of so many leaves: how often sheets within one another lose just its fewest."""
    times = {(i, i): 1 for i in range(size + 1)}
    for length in range(1, size + 1):
        for i in range(size + 1 - length):
            j = i + length
            times[i, j] = sum(
                alike * times[i + x, j - y] for (x, y, lost), (alike, way) in ways[i, j].items()
                if lost + least[i + x, j - y] == least[i, j]
            )
    return times


def check_two(row, moulds, one, other):
    """Refuse with BadMould, BadRow, BadLeaf, NoPlace, SameOne."""
    check_row(row, moulds)
    if not good_place(row, one) or not good_place(row, other):
        raise NoPlace("the row has no such leaf")
    if one == other:
        raise SameOne("two unlike leaves are asked for")


def proof(row, moulds, one, other):
    """The word for two seen leaves, and the paper for it; of "either" None."""
    check_two(row, moulds, one, other)
    more = fewest(row, moulds) + 1
    for word, against in ((MATES, APART), (APART, MATES)):
        found = paper(row, moulds, (against, one, other), more)
        if found is not None:
            return word, found
    return "either", None


def told(row, moulds, one, other):
    """Whether two seen leaves are "mates" or "apart" in all makings that lose the fewest, or "either"."""
    word, found = proof(row, moulds, one, other)
    return word


def why(row, moulds, one, other):
    """What is told of two seen leaves, with the paper for it; of "either" with a making of both kinds."""
    word, found = proof(row, moulds, one, other)
    if found is not None:
        return word, found
    return word, making(row, moulds, (MATES, one, other)), making(row, moulds, (APART, one, other))
