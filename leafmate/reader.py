"""A reader: a row of seen leaves that grows and is put right, and what is told of it."""

from leafmate.counts import many, told, why
from leafmate.errors import Full, NoPlace
from leafmate.fewest import fewest, making
from leafmate.numbers import is_number
from leafmate.papers import paper
from leafmate.rows import MOST_SEEN
from leafmate.sheets import check_moulds, check_seen


class Reader:
    """A reader of some moulds, with no leaves seen at first."""

    def __init__(self, moulds):
        check_moulds(moulds)
        self.names = list(moulds)
        self.row = []

    def see(self, at, seen):
        """Put the seen leaf in at this place."""
        self.check_place(at, len(self.row) + 1)
        check_seen([seen])
        if len(self.row) >= MOST_SEEN:
            raise Full("a row has at most 12 seen leaves")
        self.row.insert(at, seen)

    def right(self, at, seen):
        """Put the seen leaf in the place of the one there; that one."""
        self.check_place(at, len(self.row))
        check_seen([seen])
        before = self.row[at]
        self.row[at] = seen
        return before

    def strike(self, at):
        """Strike the seen leaf at this place; that one."""
        self.check_place(at, len(self.row))
        return self.row.pop(at)

    def seen(self):
        """The list of the seen leaves."""
        return list(self.row)

    def fewest(self):
        """How many leaves are lost at least."""
        return fewest(self.row, self.names)

    def making(self):
        """A making that loses the fewest."""
        return making(self.row, self.names)

    def many(self):
        """How many makings lose just the fewest."""
        return many(self.row, self.names)

    def told(self, one, other):
        """Whether two seen leaves are "mates" or "apart" in all makings that lose the fewest, or "either"."""
        return told(self.row, self.names, one, other)

    def why(self, one, other):
        """What is told of two seen leaves, with the paper or the two makings for it."""
        return why(self.row, self.names, one, other)

    def paper(self, count):
        """A paper that bars the count, or None where some making loses fewer."""
        return paper(self.row, self.names, None, count)

    def twin(self):
        """A reader that stands alike and goes its own way."""
        other = Reader(self.names)
        other.row = list(self.row)
        return other

    def check_place(self, at, places):
        """Refuse with NoPlace where this is none of so many places."""
        if not is_number(at) or not 0 <= at < places:
            raise NoPlace("the row has no such place")
