import copy
import itertools
import random
import unittest

from leafmate import errors
from leafmate.counts import many, told, why
from leafmate.fewest import fewest
from leafmate.papers import bars
from tests.paper import (
    BAD_LEAVES, BAD_MOULDS, FAR, UNSEEN, answer, bars_by, census, counted, is_good_making, left_row, lost_count,
    reckoned_by, some_making, some_rows, some_rules,
)

SEEN = [(side, *mark) for side in "mf?" for mark in (("?", "?"), ("", ""), ("ox", "abcd"), ("ox", "cd"), ("ox", "a"))]


def word_by(rows, row, one, other):
    """The word for two seen leaves by a census that has all makings that lose the fewest."""
    best = reckoned_by(rows, row)
    if best is None:
        return None
    both = [reckoned_by(rows, row, (word, one, other)) for word in ("mates", "apart")]
    mates, apart = [found is not None and found[0] == best[0] for found in both]
    return "either" if mates and apart else "mates" if mates else "apart"


class Many(unittest.TestCase):
    def test_no_leaves(self):
        for moulds in (["ox"], ["ox", "a"], ["ox", "a", "b"]):
            self.assertEqual(many([], moulds), 1)
            self.assertEqual(many([], moulds, None), 1)

    def test_by_hand(self):
        self.assertEqual(many([("f", "ox", "abcd"), ("m", "", "")], ["ox"]), 1)
        self.assertEqual(many([UNSEEN, UNSEEN], ["ox"]), 4)
        self.assertEqual(many([UNSEEN, UNSEEN], ["ox", "a"]), 8)
        self.assertEqual(many([UNSEEN, UNSEEN], ["ox", "a", "b"]), 12)
        self.assertEqual(many([UNSEEN], ["ox"]), 8)
        self.assertEqual(many([UNSEEN, UNSEEN], ["ox"], ("apart", 0, 1)), 8 * 8 * 2 + 4 * 4)
        self.assertEqual(many(row=[UNSEEN], moulds=["ox"], rule=None), 8)

    def hold(self, moulds, left, most, rows):
        found = census(moulds, left, most)
        known = 0
        chance = random.Random(left)
        for row in rows:
            for rule in some_rules(chance, row):
                best = reckoned_by(found, row, rule)
                if best is not None:
                    known += 1
                    self.assertEqual(many(row, moulds, rule), best[1], (row, rule))
                    self.assertEqual(fewest(row, moulds, rule), best[0], (row, rule))
        self.assertGreater(known, len(rows) // 4)

    def test_short_rows_against_all_makings(self):
        for moulds in (["ox"], ["ox", "a"]):
            self.hold(moulds, 1, 7, [[seen] for seen in SEEN])
            self.hold(moulds, 2, 14, [list(row) for row in itertools.product(SEEN[:: len(moulds)], repeat=2)])

    def test_longer_rows_against_all_makings_that_lose_few(self):
        chance = random.Random(1)
        for moulds, left, most, times in (
            (["ox"], 3, 5, 60), (["a", "ox"], 3, 3, 40), (["ox", "a", "b"], 3, 1, 20), (["ox"], 4, 3, 60),
            (["ox", "a"], 4, 1, 30), (["ox"], 5, 2, 40), (["ox"], 6, 1, 40), (["ox"], 8, 0, 30),
        ):
            rows = [list(row) for row in chance.sample(sorted(census(moulds, left, min(most, 2))), times // 2)]
            rows += some_rows(chance, moulds, [left], times) + [[UNSEEN] * left]
            self.hold(moulds, left, most, rows)

    def test_up_to_twelve_leaves_piece_by_piece(self):
        chance = random.Random(2)
        cases = [(["ox"], row) for row in some_rows(chance, ["ox"], (6, 8, 10, 11, 12), 3)] + [(["ox"], [UNSEEN] * 12)]
        cases += [(["ox", "a"], row) for row in some_rows(chance, ["ox", "a"], (5, 9), 2)]
        cases += [(["ox", "a", "b"], row) for row in some_rows(chance, ["ox", "a", "b"], (7,), 2)]
        for moulds, row in cases:
            for rule in some_rules(chance, row):
                expected = counted(row, moulds, rule)
                if expected is None:
                    self.assertEqual(answer(many, row, moulds, rule), "NoMaking")
                else:
                    self.assertEqual((fewest(row, moulds, rule), many(row, moulds, rule)), expected)

    def test_none_against_mates_and_apart(self):
        chance = random.Random(3)
        for moulds in (["ox"], ["ox", "a"], ["ox", "a", "b"]):
            for row in some_rows(chance, moulds, range(2, 13), 3):
                best = answer(fewest, row, moulds)
                one, other = chance.sample(range(len(row)), 2)
                total = 0
                for word in ("mates", "apart"):
                    rule = (word, one, other)
                    self.assertEqual(answer(many, row, moulds, rule), answer(many, row, moulds, (word, other, one)))
                    if best != "NoMaking" and answer(fewest, row, moulds, rule) == best:
                        total += many(row, moulds, rule)
                self.assertEqual(answer(many, row, moulds), total or "NoMaking")

    def test_moulds_called_by_other_names(self):
        chance = random.Random(4)
        for row in some_rows(chance, ["ox", "a", "b"], (1, 4, 7, 12), 4):
            for names in (["z", "crown", "abcdefgh"], ["b", "ox", "a"]):
                called = dict(zip(["ox", "a", "b"], names))
                other = [(side, called.get(mould, mould), part) for side, mould, part in row]
                self.assertEqual(answer(many, row, ["ox", "a", "b"]), answer(many, other, names))
                self.assertEqual(answer(many, row, ["ox", "a", "b"]), answer(many, row, ["b", "ox", "a"]))

    def test_joined_rows(self):
        chance = random.Random(5)
        for time in range(30):
            one = left_row(some_making(chance, ["ox"], chance.randrange(6)))
            other = left_row(some_making(chance, ["ox"], chance.randrange(6)))
            if fewest(one + other, ["ox"]) == fewest(one, ["ox"]) + fewest(other, ["ox"]):
                self.assertGreaterEqual(many(one + other, ["ox"]), many(one, ["ox"]) * many(other, ["ox"]))

    def test_what_is_handed_in_stays(self):
        row, moulds = [UNSEEN, ("m", "", ""), ("f", "a", "abcd")], ["ox", "a"]
        kept = list(row)
        self.assertIs(type(many(row, moulds, ("apart", 2, 0))), int)
        self.assertEqual((row, moulds), (kept, ["ox", "a"]))

    def test_refusals_in_their_order(self):
        bad, none = [BAD_LEAVES[0], UNSEEN], [("m", "b", "a"), UNSEEN]
        for rule in (None, ("mates", 0, 0), ("mates", 0, 1), ("far", 0, 1)):
            for moulds in BAD_MOULDS:
                for row in ([UNSEEN], bad, none, [UNSEEN] * 13, bad * 7):
                    self.assertEqual(answer(many, row, moulds, rule), "BadMould")
            for row in ([UNSEEN] * 13, bad * 7, none * 7):
                self.assertEqual(answer(many, row, ["ox"], rule), "BadRow")
            for leaf in BAD_LEAVES:
                self.assertEqual(answer(many, [UNSEEN, leaf], ["ox"], rule), "BadLeaf")
        for rule in (("mates", 0, 0), ("apart", 1, 1), ("mates", 0, 2), ("apart", -1, 0), ("", 0, 1), ("mates", FAR, 0)):
            self.assertEqual(answer(many, none, ["ox"], rule), "BadRule")
        for rule in (None, ("mates", 0, 1), ("apart", 0, 1)):
            self.assertEqual(answer(many, none, ["ox"], rule), "NoMaking")


class ToldAndWhy(unittest.TestCase):
    def hold(self, row, moulds, one, other, by=bars_by):
        """The word is the same of both questions and both ways about, and what stands beside it proves it."""
        word = told(row, moulds, one, other)
        self.assertEqual(told(row, moulds, other, one), word)
        for i, j in ((one, other), (other, one)):
            found = why(row, moulds, i, j)
            self.assertIs(type(found), tuple)
            self.assertEqual(found[0], word)
            best = fewest(row, moulds)
            if word == "either":
                self.assertEqual(len(found), 3)
                for making, kind in zip(found[1:], ("mates", "apart")):
                    self.assertEqual(lost_count(making), best)
                    self.assertTrue(is_good_making(making, moulds, row, (kind, i, j)))
            else:
                self.assertEqual(len(found), 2)
                against = "apart" if word == "mates" else "mates"
                self.assertTrue(by(row, moulds, (against, i, j), found[1], best + 1))
                self.assertTrue(bars(row, moulds, (against, j, i), found[1], best + 1))
        return word

    def test_by_hand(self):
        row = [("f", "ox", "abcd"), ("m", "", "")]
        self.assertEqual(self.hold(row, ["ox"], 0, 1), "mates")
        self.assertEqual(self.hold([("f", "ox", "abcd"), ("f", "", "")], ["ox"], 0, 1), "apart")
        self.assertEqual(self.hold([UNSEEN] * 4, ["ox"], 0, 3), "either")
        self.assertEqual(self.hold([UNSEEN] * 4, ["ox"], 0, 1), "either")
        self.assertEqual(self.hold([UNSEEN] * 4, ["ox"], 0, 2), "apart")

    def test_short_rows_against_all_makings(self):
        words = set()
        rows = census(["ox"], 2, 14)
        for row in itertools.product(SEEN, repeat=2):
            expected = word_by(rows, row, 0, 1)
            if expected is None:
                self.assertEqual(answer(told, list(row), ["ox"], 0, 1), "NoMaking")
                self.assertEqual(answer(why, list(row), ["ox"], 0, 1), "NoMaking")
            else:
                self.assertEqual(self.hold(list(row), ["ox"], 0, 1, bars), expected)
            words.add(expected)
        self.assertEqual(words, {None, "mates", "apart"} | (words & {"either"}))

    def test_longer_rows_against_all_makings_that_lose_few(self):
        chance = random.Random(6)
        words = set()
        for moulds, left, most in ((["ox"], 3, 4), (["ox"], 4, 2), (["ox"], 5, 2), (["ox", "a"], 4, 1), (["ox"], 8, 0)):
            rows = census(moulds, left, most)
            for row in some_rows(chance, moulds, [left], 20) + [[UNSEEN] * left]:
                one, other = chance.sample(range(left), 2)
                expected = word_by(rows, row, one, other)
                if expected is not None:
                    self.assertEqual(self.hold(row, moulds, one, other, bars), expected)
                    words.add(expected)
        self.assertEqual(words, {"mates", "apart", "either"})

    def test_rows_of_up_to_twelve(self):
        chance = random.Random(7)
        words = set()
        for moulds in (["ox"], ["ox", "a"], ["ox", "a", "b"]):
            for row in some_rows(chance, moulds, (5, 8, 11, 12), 4):
                if answer(fewest, row, moulds) != "NoMaking":
                    one, other = chance.sample(range(len(row)), 2)
                    if chance.random() < 0.5:
                        one, other = 0, len(row) - 1
                    words.add(self.hold(row, moulds, one, other, bars_by if len(moulds) == 1 else bars))
        self.assertEqual(words, {"mates", "apart", "either"})

    def test_new_lists_each_time(self):
        cases = ([UNSEEN] * 2, 0, 1), ([UNSEEN] * 4, 0, 2), ([UNSEEN] * 4, 0, 1)
        self.assertEqual([told(row, ["ox"], *pair) for row, *pair in cases], ["mates", "apart", "either"])
        for row, one, other in cases:
            handed, moulds = list(row), ["ox", "a"]
            found = why(handed, moulds, one, other)
            kept = copy.deepcopy(found)
            if found[0] == "either":
                for making in found[1:]:
                    making[0][0] = "gone"
                    making.append("gone")
            else:
                found[1][0][0][0] = FAR
                found[1][0].append([])
                found[1][1].pop()
            self.assertEqual(self.hold(handed, moulds, one, other), kept[0])
            self.assertEqual((handed, moulds), (row, ["ox", "a"]))
            self.assertEqual(len(why(handed, moulds, one, other)), len(kept))

    def test_refusals_in_their_order(self):
        bad, none = [BAD_LEAVES[0], UNSEEN], [("m", "b", "a"), UNSEEN]
        pairs = ((0, 1), (0, 0), (0, 2), (2, 2), (-1, 0))
        for ask in (told, why):
            for pair in pairs:
                for moulds in BAD_MOULDS:
                    for row in ([UNSEEN], bad, none, [UNSEEN] * 13, bad * 7):
                        self.assertEqual(answer(ask, row, moulds, *pair), "BadMould")
                for row in ([UNSEEN] * 13, bad * 7, none * 7):
                    self.assertEqual(answer(ask, row, ["ox"], *pair), "BadRow")
                for leaf in BAD_LEAVES:
                    self.assertEqual(answer(ask, [UNSEEN, leaf], ["ox"], *pair), "BadLeaf")
            for row in (none, [UNSEEN, UNSEEN]):
                for number in (-1, 2, 3, 99, FAR, -FAR, True):
                    for other in (0, 1, number):
                        self.assertEqual(answer(ask, row, ["ox"], number, other), "NoPlace")
                        self.assertEqual(answer(ask, row, ["ox"], other, number), "NoPlace")
                for number in (0, 1):
                    self.assertEqual(answer(ask, row, ["ox"], number, number), "SameOne")
            self.assertEqual(answer(ask, [], ["ox"], 0, 0), "NoPlace")
            self.assertEqual(answer(ask, [UNSEEN], ["ox"], 0, 1), "NoPlace")
            self.assertEqual(answer(ask, none, ["ox"], 0, 1), "NoMaking")
            self.assertEqual(answer(ask, none, ["ox"], 1, 0), "NoMaking")

    def test_refusals_are_of_their_class(self):
        with self.assertRaises(errors.NoPlace):
            told([UNSEEN], ["ox"], 0, 1)
        with self.assertRaises(errors.SameOne):
            why([UNSEEN], ["ox"], 0, 0)


class AskedAgain(unittest.TestCase):
    def test_by_turns_with_other_rows(self):
        chance = random.Random(8)
        rows = some_rows(chance, ["ox", "a"], (2, 3, 5, 7), 3)

        def all_told(row, moulds):
            last = len(row) - 1
            return [
                answer(fewest, row, moulds), answer(many, row, moulds), answer(told, row, moulds, 0, last),
                answer(fewest, row, moulds, ("mates", 0, last)), answer(many, row, moulds, ("apart", last, 0)),
            ]

        first = [all_told(list(row), ["ox", "a"]) for row in rows]
        handed, moulds = [], ["ox"]
        for turn in range(2):
            for row, expected in zip(rows, first):
                handed[:] = row
                moulds[:] = ["ox", "a"]
                self.assertEqual(all_told(handed, moulds), expected)
                handed[0] = ("m", "zebra", "a")
                moulds[0] = "b"
                self.assertEqual(all_told(handed, moulds)[0], "NoMaking")
