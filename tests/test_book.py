import copy
import itertools
import random
import unittest

from leafmate import errors
from leafmate.book import Book
from leafmate.counts import told
from leafmate.fewest import fewest
from leafmate.makings import is_making, lets, lost, row_of
from tests.paper import (
    BAD_MOULDS, BAD_SHEETS, COUNT, FAR, PaperBook, Refused, some_deed, told_of,
)

MOULDS = ["ox", "crown"]
QUESTIONS = ("moulds", "gatherings", "leaves", "torn", "seen")


def perform(book, deed):
    word, *things = deed
    return getattr(book, word)(things) if word in ("gather", "sew") else getattr(book, word)(*things)


def some_book():
    """A book with torn leaves, a nested gathering, sewn anew."""
    book = Book(list(MOULDS))
    for deed in (
        ("gather", ("ox", 1, 0)), ("gather", ("crown", 2, 1), ("ox", 1, 3)), ("gather", ("crown", 3, 2)), ("tear", 3),
        ("nest", 0, 1), ("sew", 2, 1), ("tear", 9),
    ):
        perform(book, deed)
    return book


class Base(unittest.TestCase):
    def refuse(self, refusal, book, name, *things):
        """The deed or question is refused and changes nothing."""
        before = told_of(book)
        handed = copy.deepcopy(things)
        with self.assertRaises(refusal) as caught:
            getattr(book, name)(*handed)
        self.assertIs(type(caught.exception), refusal)
        self.assertEqual(told_of(book), before)
        self.assertEqual(handed, things)


class Random(Base):
    def test_all_questions_behind_each_deed(self):
        words = set()
        for seed in range(40):
            chance = random.Random(seed)
            moulds = ["ox", "crown", "a"][: seed % 3 + 1]
            book, model = Book(moulds), PaperBook(moulds)
            for time in range(30):
                deed = some_deed(chance, model, 0.75)
                before = told_of(book)
                try:
                    expected = model.do(deed)
                except Refused as refused:
                    with self.assertRaises(getattr(errors, str(refused))):
                        perform(book, deed)
                    self.assertEqual(told_of(book), before)
                    words.add(str(refused))
                else:
                    given = perform(book, deed)
                    self.assertEqual((given, type(given)), (expected, type(expected)))
                    words.add(deed[0])
                self.assertEqual(told_of(book), model.stand(), deed)
        self.assertLessEqual({"gather", "nest", "sew", "tear", "mend", "shed"}, words)
        self.assertLessEqual({"NoSheets", "BadSheet", "Full", "NoGathering", "SameOne", "BadOrder"}, words)
        self.assertLessEqual({"NoLeaf", "Torn", "NotTorn"}, words)


class New(Base):
    def test_bad_mould(self):
        for moulds in BAD_MOULDS:
            handed = list(moulds)
            with self.assertRaises(errors.BadMould):
                Book(handed)
            self.assertEqual(handed, moulds)

    def test_an_empty_book(self):
        for moulds in (["ox"], ["z", "a"], ["c", "a", "b"]):
            handed = list(moulds)
            book = Book(handed)
            self.assertEqual(told_of(book), PaperBook(moulds).stand())
            self.assertEqual(book.moulds(), moulds)
            handed.append("far")
            handed[0] = "gone"
            self.assertEqual(book.moulds(), moulds)
            book.gather([(moulds[0], 1, 0)])
            self.refuse(errors.BadSheet, book, "gather", [("far", 1, 0)])


class Gather(Base):
    def test_one_to_many_sheets(self):
        book = Book(MOULDS)
        came = 0
        for number, many in enumerate((1, 2, 3, 4, 8, 14)):
            sheets = [(MOULDS[k % 2], 1 + k % 2, k % 4) for k in range(many)]
            self.assertEqual(book.gather(sheets), number)
            size = sum(COUNT[folds] for mould, folds, lay in sheets)
            self.assertEqual(book.sheets(number), sheets)
            self.assertEqual(book.leaves_of(number), list(range(came, came + size)))
            came += size
            self.assertEqual(book.made(), came)
            self.assertEqual(book.gatherings(), list(range(number + 1)))

    def test_handed_sheets_changed_behind(self):
        book = Book(MOULDS)
        sheets = [("ox", 1, 0), ("crown", 2, 1)]
        book.gather(sheets)
        self.assertEqual(sheets, [("ox", 1, 0), ("crown", 2, 1)])
        before = told_of(book)
        sheets.append(("ox", 3, 3))
        sheets[0] = ("crown", 3, 2)
        self.assertEqual(told_of(book), before)

    def test_no_sheets_then_bad_sheet_then_full(self):
        full = Book(MOULDS)
        full.gather([("ox", 3, 0)] * 16)
        bad = (("far", 1, 0), ("o", 1, 0), ("oxen", 1, 0), ("ox", True, 0), ("ox", 1, False))
        for book in (Book(MOULDS), some_book(), full):
            self.refuse(errors.NoSheets, book, "gather", [])
            for sheet in bad + (BAD_SHEETS if book.made() < 128 else BAD_SHEETS[::9]):
                self.refuse(errors.BadSheet, book, "gather", [sheet])
                self.refuse(errors.BadSheet, book, "gather", [("ox", 1, 0), sheet])
                self.refuse(errors.BadSheet, book, "gather", [("ox", 3, 0)] * 99 + [sheet])
        self.refuse(errors.Full, full, "gather", [("ox", 1, 0)])

    def test_full_at_128_leaves(self):
        for folds in (1, 2, 3):
            many = 128 // COUNT[folds]
            book = Book(MOULDS)
            self.refuse(errors.Full, book, "gather", [("ox", folds, 0)] * (many + 1))
            self.refuse(errors.Full, book, "gather", [("ox", folds, 0)] * 1000)
            self.assertEqual(book.gather([("ox", folds, 0)] * (many - 1)), 0)
            self.refuse(errors.Full, book, "gather", [("ox", folds, 0)] * 2)
            self.assertEqual(book.gather([("ox", folds, 1)]), 1)
            self.assertEqual(book.made(), 128)
            for other in (1, 2, 3):
                self.refuse(errors.Full, book, "gather", [("ox", other, 0)])
            self.refuse(errors.NoLeaf, book, "tear", 128)
            book.tear(127)

    def test_torn_and_shed_leaves_make_no_room(self):
        book = Book(MOULDS)
        book.gather([("ox", 3, 0)] * 16)
        book.shed(0)
        self.refuse(errors.Full, book, "gather", [("ox", 1, 0)])

    def test_numbers_are_never_given_again(self):
        book = Book(MOULDS)
        for number in range(5):
            self.assertEqual(book.gather([("ox", 1, 0)]), number)
        book.nest(4, 3)
        self.assertEqual(book.gather([("ox", 1, 1)]), 5)
        book.nest(5, 0)
        book.nest(0, 1)
        book.shed(1)
        self.assertEqual(book.gather([("ox", 2, 0)]), 6)
        self.assertEqual(book.gatherings(), [1, 2, 3, 6])
        self.assertEqual(book.leaves_of(6), [12, 13, 14, 15])
        for number in (0, 4, 5, 7):
            for name in ("sheets", "leaves_of", "shed"):
                self.refuse(errors.NoGathering, book, name, number)


class Nest(Base):
    def test_by_hand(self):
        book = Book(MOULDS)
        book.gather([("ox", 1, 0)])
        book.gather([("crown", 2, 1), ("ox", 1, 3)])
        book.gather([("ox", 1, 2)])
        self.assertIsNone(book.nest(2, 1))
        self.assertEqual(book.gatherings(), [0, 1])
        self.assertEqual(book.sheets(1), [("crown", 2, 1), ("ox", 1, 3), ("ox", 1, 2)])
        self.assertEqual(book.leaves_of(1), [2, 3, 4, 8, 9, 5, 6, 7])
        self.assertEqual([book.where(leaf) for leaf in (2, 4, 8, 9, 7)], [
            (1, 0, 0), (1, 1, 0), (1, 2, 0), (1, 2, 1), (1, 0, 3),
        ])
        book.nest(1, 0)
        self.assertEqual(book.gatherings(), [0])
        self.assertEqual(book.leaves(), [0, 2, 3, 4, 8, 9, 5, 6, 7, 1])
        self.assertEqual(book.mate(0), 1)
        self.assertEqual(book.mate(8), 9)
        self.assertEqual(book.formula(), "1211")

    def test_the_outer_one_keeps_its_place(self):
        for inner, outer in itertools.permutations(range(4), 2):
            book = Book(MOULDS)
            for number in range(4):
                book.gather([("ox", 1, number)])
            book.sew([2, 0, 3, 1])
            book.nest(inner, outer)
            self.assertEqual(book.gatherings(), [number for number in [2, 0, 3, 1] if number != inner])

    def test_torn_leaves_stay_torn(self):
        book = some_book()
        book.nest(2, 1)
        self.assertEqual(book.torn(), [3, 9])
        self.assertEqual(book.made(), 16)

    def test_refusals(self):
        book = some_book()
        for wrong in (0, 3, -1, FAR, -FAR, True, False):
            for other in (1, 2, 0, 3, wrong):
                self.refuse(errors.NoGathering, book, "nest", wrong, other)
                self.refuse(errors.NoGathering, book, "nest", other, wrong)
        for number in (1, 2):
            self.refuse(errors.SameOne, book, "nest", number, number)
        self.refuse(errors.NoGathering, Book(MOULDS), "nest", 0, 0)


class Sew(Base):
    def test_orders(self):
        for order in itertools.permutations(range(4)):
            book = Book(MOULDS)
            for number in range(4):
                book.gather([("ox", 1, number)])
            handed = list(order)
            self.assertIsNone(book.sew(handed))
            self.assertEqual(handed, list(order))
            handed.reverse()
            handed.pop()
            self.assertEqual(book.gatherings(), list(order))
            self.assertEqual(book.leaves(), [leaf for number in order for leaf in (2 * number, 2 * number + 1)])

    def test_no_gatherings(self):
        book = Book(MOULDS)
        self.assertIsNone(book.sew([]))
        for order in ([0], [1], [-1], [0, 0], [FAR]):
            self.refuse(errors.BadOrder, book, "sew", order)

    def test_bad_order(self):
        book = some_book()
        wrong = ([], [1], [2], [1, 1], [2, 2], [1, 2, 1], [0, 1, 2], [1, 2, 3], [0, 1], [1, 3], [-1, 1], [1, FAR], [True, 2])
        for order in wrong + ([2, 1, 0], [1, 2, -FAR], [0], [1, 2, 2]):
            self.refuse(errors.BadOrder, book, "sew", order)
        book.sew([1, 2])


class TearMendShed(Base):
    def test_tear_and_mend_each_leaf(self):
        book = some_book()
        book.mend(3)
        book.mend(9)
        whole = told_of(book)
        for leaf in range(16):
            self.assertIsNone(book.tear(leaf))
            self.assertEqual(book.torn(), [leaf])
            self.assertNotIn(leaf, book.leaves())
            self.refuse(errors.Torn, book, "tear", leaf)
            self.refuse(errors.Torn, book, "mate", leaf)
            self.refuse(errors.Torn, book, "look", leaf)
            self.assertEqual(book.where(leaf), whole["where"][leaf])
            self.assertIsNone(book.mate(whole["mate"][leaf]))
            self.assertIsNone(book.mend(leaf))
            self.refuse(errors.NotTorn, book, "mend", leaf)
            self.assertEqual(told_of(book), whole)

    def test_no_leaf(self):
        for book, came in ((Book(MOULDS), 0), (some_book(), 16)):
            for leaf in (-1, came, came + 1, FAR, -FAR, True, False):
                for name in ("tear", "mend", "where", "mate", "look"):
                    self.refuse(errors.NoLeaf, book, name, leaf)

    def test_shed(self):
        book = some_book()
        self.assertEqual(book.leaves_of(1), [2, 3, 4, 0, 1, 5, 6, 7])
        told_list = book.shed(1)
        self.assertEqual(told_list, [0, 1, 2, 4, 5, 6, 7])
        told_list.clear()
        self.assertEqual(book.torn(), [0, 1, 2, 3, 4, 5, 6, 7, 9])
        self.assertEqual(book.gatherings(), [2, 1])
        self.assertEqual(book.shed(1), [])
        self.assertEqual(book.formula(), "3-2 211-1.2.3.4.5.6.7.8")
        self.assertEqual(book.leaves_of(1), [2, 3, 4, 0, 1, 5, 6, 7])
        for number in (0, 3, -1, FAR, -FAR, True):
            self.refuse(errors.NoGathering, book, "shed", number)
        book.nest(1, 2)
        self.assertEqual(book.shed(2), [8, 10, 11, 12, 13, 14, 15])


class Questions(Base):
    def test_refusals(self):
        book = some_book()
        for number in (0, 3, -1, FAR, -FAR, True):
            for name in ("sheets", "leaves_of"):
                self.refuse(errors.NoGathering, book, name, number)

    def test_told_lists_are_new(self):
        book = some_book()
        before = copy.deepcopy(told_of(book))
        for name, things in [(name, ()) for name in QUESTIONS] + [("sheets", (1,)), ("leaves_of", (1,))]:
            answer = getattr(book, name)(*things)
            self.assertIs(type(answer), list)
            answer.append("gone")
            answer[0] = "gone"
            answer.reverse()
            self.assertEqual(told_of(book), before)

    def test_kinds(self):
        book = some_book()
        self.assertIs(type(book.where(4)), tuple)
        self.assertIs(type(book.look(4)), tuple)
        self.assertIs(type(book.made()), int)
        self.assertTrue(all(type(leaf) is tuple for leaf in book.seen()))

    def test_formula_with_torn_leaves(self):
        book = Book(MOULDS)
        self.assertEqual(book.formula(), "")
        book.gather([("ox", 3, 0), ("ox", 1, 0)])
        self.assertEqual(book.formula(), "31")
        book.tear(9)
        book.tear(1)
        self.assertEqual(book.formula(), "31-2.10")
        book.gather([("ox", 2, 0)])
        self.assertEqual(book.formula(), "31-2.10 2")
        book.sew([1, 0])
        book.tear(13)
        self.assertEqual(book.formula(), "2-4 31-2.10")
        book.mend(1)
        self.assertEqual(book.formula(), "2-4 31-10")

    def test_mates_of_mates(self):
        book = some_book()
        for leaf in book.leaves():
            other = book.mate(leaf)
            if other is not None:
                self.assertEqual(book.mate(other), leaf)
                self.assertNotEqual(book.look(other)[0], book.look(leaf)[0])


class Twin(Base):
    def test_goes_its_own_way(self):
        for name, things in (
            ("gather", [[("ox", 1, 0)]]), ("nest", [2, 1]), ("sew", [[1, 2]]), ("tear", [0]), ("mend", [3]), ("shed", [1]),
        ):
            book = some_book()
            before = told_of(book)
            twin = book.twin()
            self.assertIs(type(twin), Book)
            self.assertEqual(told_of(twin), before)
            getattr(twin, name)(*things)
            self.assertNotEqual(told_of(twin), before)
            self.assertEqual(told_of(book), before)
            other = book.twin()
            getattr(book, name)(*things)
            self.assertEqual(told_of(book), told_of(twin))
            self.assertEqual(told_of(other), before)

    def test_gives_the_next_numbers(self):
        twin = some_book().twin()
        self.assertEqual(twin.gather([("crown", 1, 0)]), 3)
        self.assertEqual(twin.leaves_of(3), [16, 17])

    def test_of_an_empty_book(self):
        twin = Book(MOULDS).twin()
        self.assertEqual(twin.moulds(), MOULDS)
        self.assertEqual(twin.gather([("ox", 1, 0)]), 0)


def making_of(book):
    """The making of a book's gatherings, without the sheets of which all leaves are torn."""
    making = []
    torn = {book.where(leaf) for leaf in book.torn()}
    for number in book.gatherings():
        gathering = []
        for place, sheet in enumerate(book.sheets(number)):
            gone = tuple(leaf for leaf in range(COUNT[sheet[1]]) if (number, place, leaf) in torn)
            if len(gone) < COUNT[sheet[1]]:
                gathering.append((sheet, gone))
        if gathering:
            making.append(gathering)
    return making


class ReadAsARow(unittest.TestCase):
    def test_against_lets_fewest_and_told(self):
        words = set()
        for seed in range(60):
            chance = random.Random(seed)
            model, book = PaperBook(MOULDS), Book(MOULDS)
            for time in range(14):
                deed = some_deed(chance, model, 1)
                if deed[0] == "gather" and len(book.leaves()) + sum(COUNT[sheet[1]] for sheet in deed[1:]) > 12:
                    continue
                if deed[0] != "nest" or deed[1] != deed[2]:
                    try:
                        model.do(deed)
                    except Refused:
                        continue
                    perform(book, deed)
            self.check(book, words)
        self.assertEqual(words, {"mates", "apart", "either"})

    def check(self, book, words):
        row, making = book.seen(), making_of(book)
        if len(row) > 12:
            return
        self.assertEqual(row_of(making), row)
        self.assertIs(is_making(MOULDS, making), True)
        self.assertIs(lets(row, MOULDS, making), True)
        least = fewest(row, MOULDS)
        self.assertLessEqual(least, lost(making))
        for one, other in list(itertools.combinations(range(len(row)), 2))[::7]:
            word = told(row, MOULDS, one, other)
            words.add(word)
            if lost(making) == least and word != "either":
                leaves = book.leaves()
                self.assertEqual(book.mate(leaves[one]) == leaves[other], word == "mates")
