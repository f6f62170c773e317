import itertools
import re
import unittest

from leafmate.errors import BadFormula
from leafmate.formula import read, written
from tests.paper import BAD_FOLDS, COUNT, FAR, FOLDS, SIGNS

WORD = re.compile(r"([123]+)(?:-([1-9][0-9]*(?:\.[1-9][0-9]*)*))?\Z")


def leaf_count(folds):
    return sum(COUNT[often] for often in folds)


def expected_word(word):
    """The pair of one word, or None where it is none."""
    found = WORD.match(word)
    if found is None:
        return None
    folds = [int(figure) for figure in found.group(1)]
    gone = [int(number) - 1 for number in found.group(2).split(".")] if found.group(2) else []
    if gone != sorted(set(gone)) or (gone and gone[-1] >= leaf_count(folds)):
        return None
    return folds, gone


def expected_read(text):
    """The gatherings of the text, or None where it is no formula."""
    if text == "":
        return []
    pairs = [expected_word(word) for word in text.split(" ")]
    return None if None in pairs else pairs


def subsets(many):
    return [list(gone) for size in range(many + 1) for gone in itertools.combinations(range(many), size)]


def one_gathering():
    """Gatherings, each a pair: all places of small ones, some of larger ones."""
    found = [([often], gone) for often in FOLDS for gone in subsets(COUNT[often])]
    for folds in ([1, 1], [1, 2], [2, 1], [1, 1, 1]):
        found += [(list(folds), gone) for gone in subsets(leaf_count(folds))]
    for folds in ([3, 1], [3, 3], [1, 2, 3, 2, 1], [3] * 13):
        many = leaf_count(folds)
        places = ([], [0], [8], [9], [many - 1], [0, many - 1], [8, 9], [1, 9], list(range(many)))
        found += [(list(folds), list(gone)) for gone in places]
    return found


def several():
    """Lists of gatherings: none, one, two, many."""
    singles = one_gathering()
    found = [[]] + [[pair] for pair in singles]
    found += [[one, other] for one in singles[::17] for other in singles[::13]]
    found.append(singles)
    return found


def copied(gatherings):
    return [(list(folds), list(gone)) for folds, gone in gatherings]


class Written(unittest.TestCase):
    def test_by_hand(self):
        self.assertEqual(written([]), "")
        self.assertEqual(written([([3], [])]), "3")
        self.assertEqual(written([([3, 1], [1, 9])]), "31-2.10")
        self.assertEqual(written([([1], [0, 1])]), "1-1.2")
        self.assertEqual(written([([1, 2], []), ([3, 3], [0]), ([2], [])]), "12 33-1 2")
        self.assertEqual(written([([3] * 13, [8, 9, 98, 99, 103])]), "3" * 13 + "-9.10.99.100.104")

    def test_words_of_each_kind(self):
        for folds, gone in one_gathering():
            word = "".join(map(str, folds))
            if gone:
                word += "-" + ".".join(str(place + 1) for place in gone)
            self.assertEqual(written([(folds, gone)]), word)
            self.assertEqual(expected_read(word), [(folds, gone)])

    def test_one_blank_between_words(self):
        for gatherings in several():
            self.assertEqual(written(gatherings), " ".join(written([pair]) for pair in gatherings))

    def test_lists_handed_in_stay(self):
        for gatherings in several():
            handed = copied(gatherings)
            told = written(handed)
            self.assertIs(type(told), str)
            self.assertEqual(handed, gatherings)

    def refuse(self, folds, gone):
        good = [([1], [0]), ([2, 3], [])]
        for ahead in range(3):
            gatherings = good[:ahead] + [(folds, gone)] + good[ahead:]
            for row in (gatherings, [(folds, gone)]):
                handed = copied(row)
                with self.assertRaises(BadFormula):
                    written(handed)
                self.assertEqual(handed, row)

    def test_no_folds(self):
        for gone in ([], [0], [0, 1]):
            self.refuse([], gone)

    def test_bad_folds(self):
        for often in BAD_FOLDS:
            for good in ([], [1], [3, 2]):
                for place in range(len(good) + 1):
                    self.refuse(good[:place] + [often] + good[place:], [])
                    self.refuse(good[:place] + [often] + good[place:], [0])

    def test_places_that_are_not_in_the_gathering(self):
        for folds in ([1], [2], [3], [3, 1], [1, 2, 3]):
            many = leaf_count(folds)
            for place in (-1, -2, -many, -FAR):
                self.refuse(folds, [place])
                self.refuse(folds, [place, 0])
                self.refuse(folds, [place, 0, 1])
            for place in (many, many + 1, 99, FAR):
                self.refuse(folds, [place])
                self.refuse(folds, [0, place])
                self.refuse(folds, [0, 1, place])

    def test_places_that_do_not_rise(self):
        for folds in ([1], [2], [3], [3, 1]):
            gone = list(range(leaf_count(folds)))
            for k in range(len(gone)):
                self.refuse(folds, gone[:k] + [gone[k]] + gone[k:])
                self.refuse(folds, [gone[k], gone[k]])
                for other in range(k):
                    exchanged = list(gone)
                    exchanged[k], exchanged[other] = exchanged[other], exchanged[k]
                    self.refuse(folds, exchanged)
                    self.refuse(folds, [k, other])

    def test_true_and_false_are_no_numbers(self):
        self.refuse([True], [])
        self.refuse([1, True], [])
        self.refuse([1], [False])
        self.refuse([1], [0, True])
        self.refuse([1], [False, 1])


class Read(unittest.TestCase):
    def hold(self, text):
        """Read the text, or see it refused, just as it must be."""
        expected = expected_read(text)
        if expected is None:
            with self.assertRaises(BadFormula, msg=repr(text)):
                read(text)
        else:
            self.assertEqual(read(text), expected, repr(text))

    def test_what_was_written_is_read_back(self):
        for gatherings in several():
            self.assertEqual(read(written(gatherings)), gatherings)

    def test_by_hand(self):
        self.assertEqual(read(""), [])
        self.assertEqual(read("31-2.10"), [([3, 1], [1, 9])])
        self.assertEqual(read("12 33-1 2"), [([1, 2], []), ([3, 3], [0]), ([2], [])])

    def test_kinds(self):
        for text in ("", "3", "1-1", "31-2.10 12 2-1.2.3.4"):
            told = read(text)
            self.assertIs(type(told), list)
            for pair in told:
                self.assertIs(type(pair), tuple)
                self.assertEqual([type(thing) for thing in pair], [list, list])
                self.assertLessEqual({type(number) for thing in pair for number in thing}, {int})

    def test_told_lists_are_new(self):
        for text in ("", "3", "1-1", "31-2.10 12 31-2.10 12"):
            told = read(text)
            for folds, gone in told:
                folds.append(9)
                gone.append(99)
            self.assertEqual([(folds[:-1], gone[:-1]) for folds, gone in told], expected_read(text))
            self.assertEqual(read(text), expected_read(text))
            told.append("gone")
            self.assertEqual(read(text), expected_read(text))

    def test_every_short_text(self):
        for many in range(6):
            for signs in itertools.product("0123-. \n", repeat=many):
                self.hold("".join(signs))

    def test_each_sign_at_each_place(self):
        for text in ("", "3", "31-2.10", "1-1.2 33-10.16 2", "333-9.10.11"):
            for place in range(len(text) + 1):
                self.hold(text[:place] + text[place + 1:])
                for sign in SIGNS:
                    self.hold(text[:place] + sign + text[place:])
                    self.hold(text[:place] + sign + text[place + 1:])

    def test_no_formula(self):
        texts = (
            " ", " 3", "3 ", "1  2", "  ", "\n", "3\n", "\n3", "1\n2", "-", "-1", "3-", "3- 1", "3--1", "3-1-2", "3-1-",
            "3-.1", "3-1.", "3-1..2", "3-.", "3-01", "3-1.02", "3-0", "3-0.1", "3-00", "3-2.1", "3-1.1", "3-9", "1-3",
            "1-1.2.3", "31-11", "0", "4", "10", "9", "31-2,10", "3-+1", "3-1_0", "33-1_0", "3- 1", "3-1 .2", "+3", "a",
            "?", "3-a", "3-1.a", "3 -1", "3-1 -2", "3.1", "3;1", "33-1e0", "3-\t1",
        )
        for text in texts:
            self.assertIsNone(expected_read(text), text)
            self.hold(text)
            self.hold("3-1 " + text)
            self.hold(text + " 3-1")

    def test_numbers_too_long_for_python_to_read(self):
        for number in ("1" * 5000, "0" * 5000 + "1", "1" + "0" * 5000):
            for text in ("3-" + number, "3-1." + number, "3-" + number + ".2"):
                with self.assertRaises(BadFormula):
                    read(text)

    def test_long_formula(self):
        folds = [1, 2, 3] * 200
        gone = list(range(0, leaf_count(folds), 3))
        text = written([(folds, gone)] * 3)
        self.assertEqual(read(text), [(folds, gone)] * 3)
