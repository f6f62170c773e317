"""Books: gatherings of folded sheets from which leaves are torn."""

from leafmate.errors import BadOrder, BadSheet, Full, NoGathering, NoLeaf, NotTorn, SameOne, Torn
from leafmate.folds import count
from leafmate.formula import written
from leafmate.gatherings import check_sheets, laid, mates, shown
from leafmate.numbers import is_number
from leafmate.sheets import check_moulds, leaves

# How many leaves come to a book at most.
MOST_LEAVES = 128


class Book:
    """A book of some moulds, without gatherings at first."""

    def __init__(self, moulds):
        check_moulds(moulds)
        self.names = list(moulds)
        # The numbers of the gatherings that stand, as sewn; for each of them the tuple of its sheets,
        # and the tuple of its leaves as they lie, torn or not.
        self.order = []
        self.held = {}
        self.lying = {}
        # How many gatherings and leaves came; torn leaves have True here.
        self.given = 0
        self.came = 0
        self.gone = {}

    def gather(self, sheets):
        """Put a gathering of these sheets behind all others; its number."""
        check_sheets(sheets)
        if not all(mould in self.names for mould, folds, lay in sheets):
            raise BadSheet("the book has no such mould")
        end = self.came + sum(count(folds) for mould, folds, lay in sheets)
        if end > MOST_LEAVES:
            raise Full("at most 128 leaves come to a book")
        number = self.given
        self.order.append(number)
        self.held[number] = tuple(sheets)
        self.lying[number] = tuple(range(self.came, end))
        self.given = number + 1
        self.came = end
        return number

    def nest(self, inner, outer):
        """Lay the inner gathering into the middle of the outer one."""
        self.check_gathering(inner)
        self.check_gathering(outer)
        if inner == outer:
            raise SameOne("no gathering is nested in itself")
        around = self.lying[outer]
        middle = len(around) // 2
        self.held[outer] = self.held[outer] + self.held[inner]
        self.lying[outer] = around[:middle] + self.lying[inner] + around[middle:]
        self.order.remove(inner)
        del self.held[inner]
        del self.lying[inner]

    def sew(self, order):
        """Sew the gatherings in this order."""
        if not all(is_number(number) for number in order) or sorted(order) != sorted(self.order):
            raise BadOrder("the order has the number of each gathering that stands, each once")
        self.order = list(order)

    def tear(self, leaf):
        """Tear the leaf out."""
        self.check_there(leaf)
        self.gone[leaf] = True

    def mend(self, leaf):
        """Lay the torn leaf in where it was."""
        self.check_leaf(leaf)
        if leaf not in self.gone:
            raise NotTorn("the leaf is not torn")
        del self.gone[leaf]

    def shed(self, gathering):
        """Tear out all leaves of the gathering that are not torn; the list of these, rising."""
        self.check_gathering(gathering)
        there = sorted(leaf for leaf in self.lying[gathering] if leaf not in self.gone)
        for leaf in there:
            self.gone[leaf] = True
        return there

    def moulds(self):
        """The list of the names of the moulds as they were handed in."""
        return list(self.names)

    def gatherings(self):
        """The list of the numbers of the gatherings as sewn."""
        return list(self.order)

    def sheets(self, gathering):
        """The list of the sheets of a gathering, the outermost first."""
        self.check_gathering(gathering)
        return list(self.held[gathering])

    def leaves_of(self, gathering):
        """The list of all leaves of a gathering as they lie, torn or not."""
        self.check_gathering(gathering)
        return list(self.lying[gathering])

    def made(self):
        """How many leaves came."""
        return self.came

    def leaves(self):
        """The list of the leaves that are not torn, as they lie in the book."""
        return [leaf for number in self.order for leaf in self.lying[number] if leaf not in self.gone]

    def torn(self):
        """The list of the torn leaves, rising."""
        return sorted(self.gone)

    def where(self, leaf):
        """Where the leaf lies: (gathering, number of its sheet in this, number among the sheet's leaves)."""
        self.check_leaf(leaf)
        number, place = self.place_of(leaf)
        sheet, own = laid(self.held[number])[place]
        return number, sheet, own

    def mate(self, leaf):
        """The leaf that hangs together with this one, or None where that one is torn."""
        self.check_there(leaf)
        number, place = self.place_of(leaf)
        other = self.lying[number][mates(self.held[number])[place]]
        return None if other in self.gone else other

    def look(self, leaf):
        """What is seen of the leaf: (side, mould, part)."""
        self.check_there(leaf)
        number, sheet, own = self.where(leaf)
        return leaves(self.held[number][sheet])[own]

    def seen(self):
        """The list of what is seen of the leaves that are not torn, as they lie in the book."""
        pairs = [pair for number in self.order for pair in zip(self.lying[number], shown(self.held[number]))]
        return [told for leaf, told in pairs if leaf not in self.gone]

    def formula(self):
        """The formula of all gatherings as sewn, with the torn leaves gone."""
        return written([(self.folds_of(number), self.gone_from(number)) for number in self.order])

    def twin(self):
        """A book that stands alike and goes its own way."""
        other = Book(self.names)
        other.order = list(self.order)
        other.held = dict(self.held)
        other.lying = dict(self.lying)
        other.given = self.given
        other.came = self.came
        other.gone = dict(self.gone)
        return other

    def check_gathering(self, number):
        """Refuse with NoGathering."""
        if not is_number(number) or number not in self.held:
            raise NoGathering("no gathering of this number stands")

    def check_leaf(self, leaf):
        """Refuse with NoLeaf."""
        if not is_number(leaf) or not 0 <= leaf < self.came:
            raise NoLeaf("the book has no such leaf")

    def check_there(self, leaf):
        """Refuse with NoLeaf, Torn."""
        self.check_leaf(leaf)
        if leaf in self.gone:
            raise Torn("the leaf is torn")

    def place_of(self, leaf):
        """The gathering in which the leaf lies, and its place there."""
        number = [number for number in self.order if leaf in self.lying[number]][0]
        return number, self.lying[number].index(leaf)

    def folds_of(self, number):
        """The list of the folds of the sheets of a gathering."""
        return [folds for mould, folds, lay in self.held[number]]

    def gone_from(self, number):
        """The list of the places of a gathering from which leaves are torn."""
        return [place for place, leaf in enumerate(self.lying[number]) if leaf in self.gone]
