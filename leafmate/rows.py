"""What is refused of a row of seen leaves and of the rule that it is asked under; where a sheet hurts a rule."""

from leafmate.errors import BadRow, BadRule
from leafmate.numbers import is_number
from leafmate.sheets import check_moulds, check_seen

# How many seen leaves a row has at most.
MOST_SEEN = 12

MATES = "mates"
APART = "apart"


def check_row(row, moulds):
    """Refuse with BadMould, BadRow, BadLeaf."""
    check_moulds(moulds)
    if len(row) > MOST_SEEN:
        raise BadRow("a row has at most 12 seen leaves")
    check_seen(row)


def check_asked(row, moulds, rule):
    """Refuse with BadMould, BadRow, BadLeaf, BadRule."""
    check_row(row, moulds)
    if rule is not None and not good_rule(row, rule):
        raise BadRule("this is no rule for the row")


def good_rule(row, rule):
    """Whether this tuple is a rule for the row."""
    word, one, other = rule
    return word in (MATES, APART) and good_place(row, one) and good_place(row, other) and one != other


def good_place(row, number):
    """Whether the row has a leaf of this number."""
    return is_number(number) and 0 <= number < len(row)


def ruled(rule):
    """The numbers of the seen leaves that the rule speaks of."""
    return () if rule is None else rule[1:]


def hurt(rule, begun, ended, size):
    """Whether a sheet of so many leaves hurts the rule.

    For each seen leaf that the rule speaks of, begun has the leaf of the first half that is kept as this one, or None;
    ended has the same of the second half.
    """
    if rule is None:
        return False
    one, other = [first if second is None else second for first, second in zip(begun, ended)]
    if one is None or other is None:
        # One of them without the other can be the other's mate no more.
        return rule[0] == MATES and one != other
    return (one + other == size - 1) == (rule[0] == APART)
