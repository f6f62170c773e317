import unittest

from leafmate import errors
from leafmate.book import Book
from leafmate.counts import told
from leafmate.fewest import fewest
from leafmate.folds import grid, leaf_at, mate
from leafmate.formula import read
from leafmate.gatherings import laid
from leafmate.journal import Journal, read_journal
from leafmate.marks import spread
from leafmate.reader import Reader
from leafmate.sheets import leaves
from tests.paper import UNSEEN
from tests.test_errors import REFUSALS


def torn_book():
    book = Book(["ox"])
    book.gather([("ox", 1, 0)])
    book.tear(0)
    return book


CALLS = {
    "BadMould": lambda: Book([]),
    "BadFolds": lambda: grid(4),
    "BadLay": lambda: spread(1, 4),
    "NoLeaf": lambda: mate(1, 2),
    "NoCell": lambda: leaf_at(1, 1, 0),
    "BadSheet": lambda: leaves(("ox", 1, 4)),
    "NoSheets": lambda: laid([]),
    "BadLeaf": lambda: Reader(["ox"]).see(0, ("m", "ox", "")),
    "BadRow": lambda: fewest([UNSEEN] * 13, ["ox"]),
    "BadFormula": lambda: read("4"),
    "BadRule": lambda: fewest([UNSEEN], ["ox"], ("mates", 0, 0)),
    "NoMaking": lambda: fewest([("m", "a", "a")], ["ox"]),
    "NoPlace": lambda: told([UNSEEN], ["ox"], 0, 1),
    "SameOne": lambda: told([UNSEEN], ["ox"], 0, 0),
    "Full": lambda: Book(["ox"]).gather([("ox", 3, 0)] * 17),
    "NoGathering": lambda: Book(["ox"]).shed(0),
    "BadOrder": lambda: Book(["ox"]).sew([0]),
    "Torn": lambda: torn_book().tear(0),
    "NotTorn": lambda: torn_book().mend(1),
    "BadDeed": lambda: Journal(["ox"]).do(()),
    "Nothing": lambda: Journal(["ox"]).back(),
    "BadText": lambda: read_journal(""),
}


class Refusals(unittest.TestCase):
    def test_each_is_raised_by_some_call_and_is_of_no_other(self):
        self.assertEqual(sorted(CALLS), sorted(REFUSALS))
        for name, call in CALLS.items():
            with self.subTest(name):
                with self.assertRaises(ValueError) as caught:
                    call()
                refusal = caught.exception
                self.assertIs(type(refusal), getattr(errors, name))
                self.assertIsInstance(refusal, errors.LeafError)
                kinds = [other for other in REFUSALS if isinstance(refusal, getattr(errors, other))]
                self.assertEqual(kinds, [name])

    def test_bad_text_has_its_row(self):
        for text, row in (("", 0), ("moulds ox\ntear 0", 1), ("moulds ox\nsew\nsew\n", 3)):
            with self.assertRaises(errors.BadText) as caught:
                read_journal(text)
            self.assertEqual(caught.exception.row, row)
