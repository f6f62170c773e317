import random
import unittest

from leafmate import errors
from leafmate.book import Book
from leafmate.fewest import making
from leafmate.journal import Journal, read_journal
from leafmate.makings import row_of, steps
from tests.paper import (
    BAD_MOULDS, COUNT, FAR, SIGNS, PaperBook, Refused, first_wrong, lost_count, mate_pairs, some_deed, some_making,
    some_rows, told_of,
)

MOULDS = ["ox", "crown"]
DEEDS = [
    ("gather", ("ox", 1, 0)), ("gather", ("crown", 2, 1), ("ox", 1, 3)), ("gather", ("crown", 3, 2)), ("tear", 3),
    ("nest", 0, 1), ("sew", 2, 1), ("tear", 10), ("mend", 3), ("shed", 1),
]
TEXT = (
    "moulds ox crown\ngather ox 1 0\ngather crown 2 1 ox 1 3\ngather crown 3 2\ntear 3\nnest 0 1\nsew 2 1\ntear 10\n"
    "mend 3\nshed 1"
)


def some_journal(deeds=DEEDS, moulds=MOULDS):
    journal = Journal(list(moulds))
    for deed in deeds:
        journal.do(deed)
    return journal


def stand_by(deeds, moulds=MOULDS):
    """What a book tells behind these deeds."""
    book = PaperBook(moulds)
    for deed in deeds:
        book.do(deed)
    return book.stand()


def state(journal):
    """All that a journal tells, what was taken back, too."""
    twin = journal.twin()
    ahead = []
    while True:
        try:
            ahead.append(twin.again())
        except errors.Nothing:
            break
    return journal.deeds(), told_of(journal.book()), journal.text(), ahead


class Base(unittest.TestCase):
    def refuse(self, refusal, journal, name, *things):
        before = state(journal)
        with self.assertRaises(refusal) as caught:
            getattr(journal, name)(*things)
        self.assertIs(type(caught.exception), refusal)
        self.assertEqual(state(journal), before)


class Do(Base):
    def test_bad_mould(self):
        for moulds in BAD_MOULDS:
            handed = list(moulds)
            with self.assertRaises(errors.BadMould):
                Journal(handed)
            self.assertEqual(handed, moulds)

    def test_handed_moulds_changed_behind(self):
        moulds = ["ox", "crown"]
        journal = Journal(moulds)
        moulds[0] = "gone"
        moulds.pop()
        self.assertEqual(journal.text(), "moulds ox crown")
        self.assertEqual(journal.book().moulds(), ["ox", "crown"])
        self.assertEqual(journal.do(("gather", ("crown", 1, 0))), 0)

    def test_what_the_book_gives(self):
        journal = Journal(MOULDS)
        given = [0, 1, 2, None, None, None, None, None, [0, 1, 2, 3, 4, 5, 6, 7]]
        for number, (deed, expected) in enumerate(zip(DEEDS, given, strict=True)):
            self.assertEqual(journal.do(deed), expected)
            self.assertEqual(journal.deeds(), DEEDS[:number + 1])
            self.assertEqual(told_of(journal.book()), stand_by(DEEDS[:number + 1]))
            self.assertTrue(all(type(done) is tuple for done in journal.deeds()))

    def test_told_and_handed_lists(self):
        journal = some_journal()
        before = state(journal)
        told = journal.deeds()
        told.pop()
        told[0] = ("tear", 0)
        self.assertEqual(state(journal), before)
        given = journal.do(("shed", 2))
        self.assertEqual(given, [8, 9, 11, 12, 13, 14, 15])
        given.clear()
        self.assertEqual(told_of(journal.book()), stand_by(DEEDS + [("shed", 2)]))

    def test_sew_nothing(self):
        journal = Journal(MOULDS)
        self.assertIsNone(journal.do(("sew",)))
        self.assertEqual(journal.text(), "moulds ox crown\nsew")
        self.assertEqual(read_journal(journal.text()).deeds(), [("sew",)])

    def test_bad_deed_ahead_of_the_books_refusals(self):
        taken = some_journal()
        taken.back()
        for journal in (Journal(MOULDS), some_journal(), taken):
            self.refuse(errors.BadDeed, journal, "do", ())
            for word in ("", "Gather", "gathers", "gather ", " tear", "torn", "moulds", "read", "twin", "book", "do", "\n"):
                for things in ((), (0,), (0, 1), (("ox", 1, 0),), (-1, -1, -1)):
                    self.refuse(errors.BadDeed, journal, "do", (word, *things))
            for number in (0, 3, 99, FAR):
                for many in (0, 1, 3, 4):
                    self.refuse(errors.BadDeed, journal, "do", ("nest", *[number] * many))
                for word in ("tear", "mend", "shed"):
                    for many in (0, 2, 3):
                        self.refuse(errors.BadDeed, journal, "do", (word, *[number] * many))

    def test_the_books_refusals(self):
        journal = some_journal()
        journal.back()
        for refusal, deed in (
            (errors.NoSheets, ("gather",)), (errors.BadSheet, ("gather", ("a", 1, 0))), (errors.SameOne, ("nest", 1, 1)),
            (errors.BadSheet, ("gather", ("ox", 1, 0), ("ox", 4, 0))), (errors.Full, ("gather", *[("ox", 3, 0)] * 16)),
            (errors.NoGathering, ("nest", 0, 0)), (errors.NoGathering, ("nest", 1, 0)), (errors.BadOrder, ("sew",)),
            (errors.BadOrder, ("sew", 1)), (errors.BadOrder, ("sew", 1, 2, 0)), (errors.NoLeaf, ("tear", 16)),
            (errors.Torn, ("tear", 10)), (errors.NoLeaf, ("mend", -1)), (errors.NotTorn, ("mend", 3)),
            (errors.NoGathering, ("shed", 0)), (errors.NoLeaf, ("tear", FAR)), (errors.NoGathering, ("shed", -FAR)),
            (errors.NoLeaf, ("tear", True)), (errors.BadOrder, ("sew", True, 2)), (errors.NoGathering, ("shed", True)),
        ):
            self.refuse(refusal, journal, "do", deed)
        self.assertEqual(journal.again(), ("shed", 1))


class BackAndAgain(Base):
    def test_to_the_ends(self):
        journal = some_journal()
        for turn in range(2):
            self.refuse(errors.Nothing, journal, "again")
            for number in range(len(DEEDS) - 1, -1, -1):
                self.assertEqual(journal.back(), DEEDS[number])
                self.assertEqual(journal.deeds(), DEEDS[:number])
                self.assertEqual(told_of(journal.book()), stand_by(DEEDS[:number]))
            self.refuse(errors.Nothing, journal, "back")
            for number in range(len(DEEDS)):
                self.assertEqual(journal.again(), DEEDS[number])
                self.assertEqual(journal.deeds(), DEEDS[:number + 1])
                self.assertEqual(told_of(journal.book()), stand_by(DEEDS[:number + 1]))

    def test_a_new_journal(self):
        self.refuse(errors.Nothing, Journal(MOULDS), "back")
        self.refuse(errors.Nothing, Journal(MOULDS), "again")

    def test_a_deed_done_otherwise_lets_all_go(self):
        for many in range(1, len(DEEDS)):
            journal = some_journal()
            for time in range(many):
                journal.back()
            left = DEEDS[:len(DEEDS) - many]
            deed = ("tear", 1)
            journal.do(deed)
            self.refuse(errors.Nothing, journal, "again")
            self.assertEqual(journal.deeds(), left + [deed])
            self.assertEqual(journal.back(), deed)
            self.assertEqual(journal.back(), left[-1])

    def test_the_same_deed_done_otherwise_lets_all_go(self):
        journal = some_journal()
        journal.back()
        journal.back()
        journal.do(DEEDS[-2])
        self.refuse(errors.Nothing, journal, "again")

    def test_a_refused_deed_lets_nothing_go(self):
        journal = some_journal()
        journal.back()
        journal.back()
        self.refuse(errors.NotTorn, journal, "do", ("mend", 1))
        self.refuse(errors.BadDeed, journal, "do", ("mend",))
        self.assertEqual([journal.again(), journal.again()], DEEDS[-2:])

    def test_numbers_are_given_as_if_the_deed_was_never_done(self):
        journal = Journal(MOULDS)
        for time in range(3):
            self.assertEqual(journal.do(("gather", ("ox", 1, time))), 0)
            self.assertEqual(journal.book().leaves(), [0, 1])
            journal.back()

    def test_random_walks(self):
        for seed in range(25):
            chance = random.Random(seed)
            journal, done, undone = Journal(MOULDS), [], []
            for time in range(40):
                move = chance.choice(("do", "do", "do", "back", "again"))
                model = PaperBook(MOULDS)
                for deed in done:
                    model.do(deed)
                if move == "do":
                    deed = some_deed(chance, model, 0.8)
                    try:
                        expected = model.do(deed)
                    except Refused as refused:
                        self.refuse(getattr(errors, str(refused)), journal, "do", deed)
                    else:
                        self.assertEqual(journal.do(deed), expected)
                        done, undone = done + [deed], []
                elif move == "back" and done:
                    undone.append(done.pop())
                    self.assertEqual(journal.back(), undone[-1])
                elif move == "again" and undone:
                    done.append(undone.pop())
                    self.assertEqual(journal.again(), done[-1])
                else:
                    self.refuse(errors.Nothing, journal, move)
                self.assertEqual(journal.deeds(), done)
            self.assertEqual(state(journal)[3], undone[::-1])
            self.assertEqual(told_of(journal.book()), stand_by(done))
            self.assertIsNone(first_wrong(journal.text()))
            self.assertEqual(state(read_journal(journal.text())), (*state(journal)[:3], []))


class BookAndTwin(Base):
    def test_the_book_goes_its_own_way(self):
        journal = some_journal()
        before = state(journal)
        book = journal.book()
        self.assertIs(type(book), Book)
        book.gather([("ox", 1, 0)])
        book.nest(3, 2)
        book.sew([1, 2])
        book.mend(0)
        book.tear(8)
        book.shed(2)
        self.assertEqual(state(journal), before)
        kept = journal.book()
        stood = told_of(kept)
        journal.do(("mend", 0))
        journal.back()
        journal.back()
        self.assertEqual(told_of(kept), stood)

    def test_the_twin_goes_its_own_way(self):
        for name, things in (("do", [("mend", 10)]), ("back", []), ("again", [])):
            journal = some_journal()
            journal.back()
            journal.back()
            before = state(journal)
            twin = journal.twin()
            self.assertIs(type(twin), Journal)
            self.assertEqual(state(twin), before)
            getattr(twin, name)(*things)
            self.assertEqual(state(journal), before)
            self.assertNotEqual(state(twin), before)
            other = journal.twin()
            getattr(journal, name)(*things)
            self.assertEqual(state(journal), state(twin))
            self.assertEqual(state(other), before)

    def test_twins_taken_back_and_done_otherwise(self):
        journal = some_journal()
        twin = journal.twin()
        for time in range(4):
            twin.back()
        twin.do(("tear", 0))
        twin.do(("tear", 15))
        for number in range(len(DEEDS) - 1, -1, -1):
            self.assertEqual(journal.back(), DEEDS[number])
            self.assertEqual(told_of(journal.book()), stand_by(DEEDS[:number]))
        self.assertEqual(twin.deeds(), DEEDS[:5] + [("tear", 0), ("tear", 15)])


class Text(Base):
    def read(self, text):
        """The number of the first wrong row, or None where the text is read."""
        try:
            journal = read_journal(text)
        except errors.BadText as refusal:
            self.assertIs(type(refusal), errors.BadText)
            self.assertIs(type(refusal.row), int)
            return refusal.row
        self.assertEqual(journal.text(), text)
        return None

    def hold(self, text):
        expected = first_wrong(text)
        self.assertEqual(self.read(text), expected, text)
        return expected

    def test_text(self):
        self.assertEqual(some_journal().text(), TEXT)
        self.assertEqual(Journal(["z", "a", "b"]).text(), "moulds z a b")
        journal = some_journal()
        rows = TEXT.split("\n")
        for number in range(len(rows) - 1, 0, -1):
            self.assertEqual(journal.text(), "\n".join(rows[:number + 1]))
            journal.back()
        self.assertEqual(journal.text(), "moulds ox crown")

    def test_read_back(self):
        rows = TEXT.split("\n")
        for number in range(len(rows)):
            journal = read_journal("\n".join(rows[:number + 1]))
            self.assertIs(type(journal), Journal)
            self.assertEqual(state(journal), (DEEDS[:number], stand_by(DEEDS[:number]), "\n".join(rows[:number + 1]), []))
            self.refuse(errors.Nothing, journal, "again")
            for deed in DEEDS[:number][::-1]:
                self.assertEqual(journal.back(), deed)
            self.refuse(errors.Nothing, journal, "back")

    def test_random_texts_read_back(self):
        for seed in range(30):
            chance = random.Random(seed)
            moulds = chance.sample(["ox", "crown", "a", "zzzzzzzz"], seed % 3 + 1)
            journal, model = Journal(moulds), PaperBook(moulds)
            for time in range(25):
                deed = some_deed(chance, model, 1)
                try:
                    model.do(deed)
                except Refused:
                    continue
                journal.do(deed)
            read = read_journal(journal.text())
            self.assertEqual(state(read), state(journal))
            self.assertEqual(told_of(read.book()), model.stand())

    def test_each_sign_at_each_place(self):
        text = TEXT
        signs = "\n 0123459-+amgs?_."
        wrong = set()
        for place in range(len(text) + 1):
            for sign in signs:
                wrong.add(self.hold(text[:place] + sign + text[place:]))
                wrong.add(self.hold(text[:place] + sign + text[place + 1:]))
            wrong.add(self.hold(text[:place] + text[place + 1:]))
            wrong.add(self.hold(text[:place]))
        self.assertEqual(wrong, {None, *range(len(text.split("\n")) + 1)})

    def test_all_signs_in_a_short_text(self):
        text = "moulds ox\ngather ox 1 0\nsew 0\ntear 1"
        for place in range(len(text) + 1):
            for sign in SIGNS:
                self.hold(text[:place] + sign + text[place:])
                self.hold(text[:place] + sign + text[place + 1:])

    def test_words_put_in_taken_out_changed_or_exchanged(self):
        rows = [row.split(" ") for row in TEXT.split("\n")]
        for number, words in enumerate(rows):
            changes = []
            for k in range(len(words) + 1):
                for word in ("", "0", "1", "2", "00", "ox", "tear", "-1", "1.0", "gather", "999", "9" * 900, "moulds"):
                    changes.append(words[:k] + [word] + words[k:])
                    changes.append(words[:k] + [word] + words[k + 1:])
                changes.append(words[:k] + words[k + 1:])
                for m in range(k):
                    if k < len(words):
                        changes.append(words[:m] + [words[k]] + words[m + 1:k] + [words[m]] + words[k + 1:])
            for other in changes:
                text = "\n".join(" ".join(row) for row in rows[:number] + [other] + rows[number + 1:])
                self.hold(text)

    def test_needless_noughts(self):
        rows = TEXT.split("\n")
        for number, row in enumerate(rows):
            words = row.split(" ")
            for k, word in enumerate(words):
                if word.isdigit():
                    for nought in ("0", "00", "+", "-", "0" * 900):
                        other = " ".join(words[:k] + [nought + word] + words[k + 1:])
                        self.assertEqual(self.hold("\n".join(rows[:number] + [other] + rows[number + 1:])), number)

    def test_rows_gone_twice_empty_or_elsewhere(self):
        rows = TEXT.split("\n")
        for number, row in enumerate(rows):
            self.hold("\n".join(rows[:number] + rows[number + 1:]))
            self.hold("\n".join(rows[:number] + [row] + rows[number:]))
            self.assertEqual(self.hold("\n".join(rows[:number] + [""] + rows[number:])), number)
            self.assertEqual(self.hold("\n".join(rows[:number] + [""] + rows[number + 1:])), number)
            for other in range(len(rows)):
                left = rows[:number] + rows[number + 1:]
                self.hold("\n".join(left[:other] + [row] + left[other:]))

    def test_a_blank_or_a_line_feed_at_the_end(self):
        rows = TEXT.split("\n")
        for number in range(len(rows)):
            text = "\n".join(rows[:number + 1])
            self.assertEqual(self.hold(text + " "), number)
            self.assertEqual(self.hold(text + "\n"), number + 1)
            self.assertEqual(self.hold(text + "\n "), number + 1)
            self.assertEqual(self.hold(text + " \n"), number)
            self.assertEqual(self.hold(text + "\n\n"), number + 1)
            self.assertEqual(self.hold("\n" + text), 0)
            self.assertEqual(self.hold(" " + text), 0)

    def test_heads(self):
        for text in (
            "", "\n", " ", "moulds", "moulds ", "moulds  ox", "moulds ox ox", "moulds a b c d", "moulds Ox", "mould ox",
            "ox", "moulds abcdefghi", "moulds ox ", "moulds\nox", "Moulds ox", "moulds ox\t", "gather ox 1 0", "sew",
            "moulds 1", "moulds a b a", "moulds ?",
        ):
            self.assertEqual(self.hold(text), 0, text)
            self.assertEqual(self.hold(text.split("\n")[0] + "\nwrong"), 0)
        for text in ("moulds ox", "moulds abcdefgh", "moulds a b c", "moulds gather sew moulds", "moulds c a"):
            self.assertIsNone(self.hold(text))

    def test_deeds_that_are_refused_there(self):
        rows = TEXT.split("\n")
        refused = (
            "gather", "gather a 1 0", "gather ox 0 0", "gather ox 1 4", "gather ox 4 1", "gather ox 1", "gather ox 1 0 ox",
            "gather" + " ox 3 0" * 15, "nest 0 0", "nest 1 1", "nest 0 9", "nest 1", "nest 1 2 3", "sew", "sew 0", "sew 1 2 3",
            "tear 16", "tear 99", "tear 128", "tear -1", "tear", "tear 1 2", "mend 15", "mend 99", "shed 9", "shed", "twin",
        )
        for number in range(1, len(rows) + 1):
            for row in refused:
                self.hold("\n".join(rows[:number] + [row] + rows[number:]))
                self.hold("\n".join(rows[:number] + [row, "wrong"]))
        for row in refused:
            self.assertEqual(self.hold(TEXT + "\n" + row + "\nwrong"), len(rows))

    def test_full(self):
        text = "moulds ox" + "\ngather" * 16
        text = text.replace("gather", "gather ox 3 0")
        self.assertIsNone(self.hold(text))
        self.assertEqual(self.hold(text + "\ngather ox 1 0"), 17)
        self.assertEqual(self.hold("moulds ox\ngather" + " ox 1 0" * 65), 1)
        self.assertIsNone(self.hold("moulds ox\ngather" + " ox 1 0" * 64))

    def test_many_rows(self):
        text = "moulds ox\ngather ox 1 0" + "\ntear 1\nmend 1" * 1000
        self.assertIsNone(self.hold(text))
        self.assertEqual(self.hold(text + "\nmend 1"), 2002)


class Steps(unittest.TestCase):
    def hold(self, made, moulds):
        journal = Journal(moulds)
        deeds = steps(made)
        for deed in deeds:
            journal.do(deed)
        self.assertEqual(journal.deeds(), deeds)
        book = journal.book()
        self.assertEqual(book.seen(), row_of(made))
        self.assertEqual(len(book.torn()), lost_count(made))
        self.assertEqual([book.sheets(number) for number in book.gatherings()], [
            [sheet for sheet, gone in gathering] for gathering in made
        ])
        gone = {(g, s, leaf) for g, gathering in enumerate(made) for s, pair in enumerate(gathering) for leaf in pair[1]}
        self.assertEqual({book.where(leaf) for leaf in book.torn()}, gone)
        leaves = book.leaves()
        pairs = {(i, j) for i, leaf in enumerate(leaves) for j in range(i, len(leaves)) if book.mate(leaf) == leaves[j]}
        self.assertEqual(pairs, mate_pairs(made))
        self.assertEqual(book.formula(), self.formula(made))
        self.assertEqual(read_journal(journal.text()).deeds(), deeds)

    def formula(self, made):
        """The word of each gathering, the lost leaves found by sheets put into one another."""
        words = []
        for gathering in made:
            order = []
            for number, (sheet, gone) in enumerate(gathering):
                order[len(order) // 2:len(order) // 2] = [(number, leaf) for leaf in range(COUNT[sheet[1]])]
            places = [str(k) for k, (number, leaf) in enumerate(order, 1) if leaf in gathering[number][1]]
            figures = "".join(str(sheet[1]) for sheet, gone in gathering)
            words.append(figures + "-" + ".".join(places) if places else figures)
        return " ".join(words)

    def test_told_makings(self):
        chance = random.Random(1)
        for moulds in (["ox"], ["ox", "a", "b"]):
            for row in some_rows(chance, moulds, range(13), 3):
                try:
                    self.hold(making(row, moulds), moulds)
                except errors.NoMaking:
                    continue

    def test_some_makings(self):
        chance = random.Random(2)
        for left in range(20):
            self.hold(some_making(chance, MOULDS, left), MOULDS)
