"""Journals: books kept by deeds that are taken back and done again, and the texts of journals."""

from leafmate.book import Book
from leafmate.errors import BadDeed, BadMould, BadText, LeafError, Nothing

# How many things stand behind the first text of a deed; of the others any many.
THINGS = {"nest": 2, "tear": 1, "mend": 1, "shed": 1}
ANY_MANY = ("gather", "sew")

# The first text of the first row of a journal's text.
HEAD = "moulds"

FIGURES = "0123456789"


def check_deed(deed):
    """Refuse with BadDeed."""
    if not deed:
        raise BadDeed("a deed is not empty")
    word = deed[0]
    if word in ANY_MANY:
        return
    if word not in THINGS or len(deed) != THINGS[word] + 1:
        raise BadDeed("there is no such deed of so many things")


def perform(book, deed):
    """Do the deed with the book; what the book gives for it."""
    word, *things = deed
    if word == "gather":
        return book.gather(things)
    if word == "sew":
        return book.sew(things)
    if word == "nest":
        inner, outer = things
        return book.nest(inner, outer)
    if word == "tear":
        return book.tear(things[0])
    if word == "mend":
        return book.mend(things[0])
    return book.shed(things[0])


class Journal:
    """A book of some moulds, kept by deeds."""

    def __init__(self, moulds):
        # No book that is held here is ever changed: a deed is done with a twin. So twins of the journal can share them.
        self.now = Book(moulds)
        # Pairs of a deed done and the book ahead of it; the deeds taken back, the last one last.
        self.past = []
        self.undone = []

    def do(self, deed):
        """Do the deed; what the book gives for it."""
        check_deed(deed)
        given = self.advance(tuple(deed))
        self.undone = []
        return given

    def back(self):
        """Take the last deed back; that deed."""
        if not self.past:
            raise Nothing("there is no deed to take back")
        deed, before = self.past.pop()
        self.now = before
        self.undone.append(deed)
        return deed

    def again(self):
        """Do the deed again that was taken back last; that deed."""
        if not self.undone:
            raise Nothing("there is no deed to do again")
        deed = self.undone.pop()
        self.advance(deed)
        return deed

    def deeds(self):
        """The list of the deeds that are done and not taken back."""
        return [deed for deed, before in self.past]

    def book(self):
        """A book that stands as this one does and goes its own way."""
        return self.now.twin()

    def text(self):
        """The text of the journal."""
        rows = [(HEAD, *self.now.names)] + self.deeds()
        return "\n".join([written_row(row) for row in rows])

    def twin(self):
        """A journal with the same deeds to take back and do again, that goes its own way."""
        other = Journal(self.now.moulds())
        other.now = self.now
        other.past = list(self.past)
        other.undone = list(self.undone)
        return other

    def advance(self, deed):
        """Do the deed with a twin of the book, which stands from then on; what it gives."""
        after = self.now.twin()
        given = perform(after, deed)
        self.past.append((deed, self.now))
        self.now = after
        return given


def written_row(row):
    """How a row stands in a journal's text."""
    words = []
    for thing in row:
        words.extend(thing if isinstance(thing, tuple) else [thing])
    return " ".join([str(word) for word in words])


def read_journal(text):
    """The journal that has this text."""
    rows = text.split("\n")
    journal = read_head(rows[0])
    for number, row in enumerate(rows[1:], start=1):
        read_row(journal, number, row)
    return journal


def read_head(row):
    """The journal without deeds of which this is the first row."""
    word, *names = row.split(" ")
    if word != HEAD:
        raise BadText(0)
    try:
        return Journal(names)
    except BadMould:
        raise BadText(0) from None


def read_row(journal, number, row):
    """Do the deed of this row."""
    deed = read_deed(row)
    if None in deed:
        raise BadText(number)
    try:
        journal.do(deed)
    except LeafError:
        raise BadText(number) from None


def read_deed(row):
    """The deed of this row, with None for each thing that is not of its form."""
    word, *words = row.split(" ")
    if word == "gather":
        things = [read_sheet(words[k:k + 3]) for k in range(0, len(words), 3)]
    else:
        things = [read_number(figures) for figures in words]
    return (word, *things)


def read_sheet(words):
    """The sheet of three words, or None."""
    if len(words) != 3:
        return None
    mould, folds, lay = words[0], read_number(words[1]), read_number(words[2])
    return None if folds is None or lay is None else (mould, folds, lay)


def read_number(figures):
    """The number that is written plainly so, or None."""
    # No number in a journal's text has more than three figures, and Python reads none of very many.
    if not 1 <= len(figures) <= 3 or not all(figure in FIGURES for figure in figures):
        return None
    number = int(figures)
    return number if str(number) == figures else None
