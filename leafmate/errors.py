"""What the program refuses: one class for each refusal, all of them under LeafError."""


class LeafError(ValueError):
    """Any refusal."""


class BadMould(LeafError):
    """The moulds are not 1 to 3 unlike names."""


class BadFolds(LeafError):
    """A sheet is folded once, twice or three times."""


class BadLay(LeafError):
    """A sheet lies in one of the lays 0 to 3."""


class NoLeaf(LeafError):
    """There is no leaf of this number."""


class NoCell(LeafError):
    """The folded sheet has no cell there."""


class BadSheet(LeafError):
    """This is no sheet, or none of the moulds at hand."""


class NoSheets(LeafError):
    """A gathering has one sheet at least."""


class BadLeaf(LeafError):
    """This is no seen leaf."""


class BadRow(LeafError):
    """The row has too many seen leaves."""


class BadFormula(LeafError):
    """No gatherings have such a formula."""


class BadRule(LeafError):
    """This is no rule for the row."""


class NoMaking(LeafError):
    """No making lets the row by and keeps the rule."""


class NoPlace(LeafError):
    """The row has no such place."""


class SameOne(LeafError):
    """Two unlike ones are asked for."""


class Full(LeafError):
    """No more leaves can come."""


class NoGathering(LeafError):
    """No gathering of this number stands."""


class BadOrder(LeafError):
    """The order does not have each standing gathering once."""


class Torn(LeafError):
    """The leaf is torn."""


class NotTorn(LeafError):
    """The leaf is not torn."""


class BadDeed(LeafError):
    """This is no deed."""


class Nothing(LeafError):
    """There is no deed to take back or to do again."""


class BadText(LeafError):
    """No journal has this text; row is the number of the first wrong row."""

    def __init__(self, row):
        super().__init__(f"row {row} is wrong")
        self.row = row
