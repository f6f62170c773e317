"""Papers: numbers by which everybody can check that no making of a row loses fewer leaves than a count."""

from leafmate.numbers import is_number
from leafmate.rows import check_asked
from leafmate.stretches import least_lost
from leafmate.ways import ways_around


def paper(row, moulds, rule, count):
    """A paper that bars the count, or None where some making loses fewer."""
    check_asked(row, moulds, rule)
    # What is cut off at the count still bars it, and stands also where there is no making at all.
    least, starts = least_lost(ways_around(row, moulds, rule), len(row), max(0, count))
    if starts[-1] < count:
        return None
    ends = len(row) + 1
    return [[least[i, j] for j in range(i + 1, ends)] for i in range(len(row))], starts


def bars(row, moulds, rule, paper, count):
    """Whether the paper bars the count."""
    check_asked(row, moulds, rule)
    stretches, starts = paper
    if not good_form(len(row), stretches, starts) or starts[0] > 0 or starts[-1] < count:
        return False
    least = told_stretches(stretches)
    if not all(starts[j] <= starts[i] + least[i, j] for i, j in least):
        return False
    ways = ways_around(row, moulds, rule)
    return all(least[i, j] <= lost + least[i + x, j - y] for i, j in ways for x, y, lost in ways[i, j])


def good_form(many, stretches, starts):
    """Whether a paper for so many leaves has just so many lists and numbers."""
    if len(stretches) != many or len(starts) != many + 1:
        return False
    if not all(len(numbers) == many - i for i, numbers in enumerate(stretches)):
        return False
    return all(is_number(number) for numbers in [*stretches, starts] for number in numbers)


def told_stretches(stretches):
    """The dict of the numbers of all stretches (i, j), those without leaves, too."""
    least = {(i, i): 0 for i in range(len(stretches) + 1)}
    for i, numbers in enumerate(stretches):
        for k, number in enumerate(numbers):
            least[i, i + 1 + k] = number
    return least
