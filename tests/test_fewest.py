import copy
import itertools
import random
import unittest

from leafmate.errors import BadLeaf, BadMould, BadRow, BadRule, NoMaking
from leafmate.fewest import fewest, making
from leafmate.makings import is_making, lets, lost
from leafmate.papers import paper
from tests.paper import (
    BAD_LEAVES, BAD_MOULDS, FAR, UNSEEN, bars_by, census, is_good_making, left_row, lost_count, reckoned_by, some_making,
    some_rows, some_rules, told_leaves,
)

SIDES = ("m", "f", "?")
MARKS = (("?", "?"), ("", ""), ("ox", "abcd"), ("ox", "ab"), ("ox", "cd"), ("ox", "a"), ("ox", "d"), ("a", "b"))
SEEN = [(side, *mark) for side in SIDES for mark in MARKS]
NEAR_AND_FAR = (-1, -2, 99, FAR, -FAR)


def asked(ask, row, moulds, rule):
    """What is told, or NoMaking."""
    try:
        return ask(row, moulds, rule)
    except NoMaking:
        return NoMaking


class AgainstAllMakings(unittest.TestCase):
    def hold(self, rows, row, moulds, rule, most):
        """The census has all makings of the moulds of so many leaves that lose at most so many."""
        found = reckoned_by(rows, row, rule)
        told = asked(fewest, row, moulds, rule)
        if found is not None:
            self.assertEqual(told, found[0], (row, rule))
        elif told is not NoMaking:
            self.assertGreater(told, most, (row, rule))
        best = asked(making, row, moulds, rule)
        if told is NoMaking:
            self.assertIs(best, NoMaking)
        else:
            self.assertEqual(lost_count(best), told)
            self.assertTrue(is_good_making(best, moulds, row, rule), (row, rule, best))
        return told

    def test_one_leaf(self):
        for moulds in (["ox"], ["a", "ox"], ["b"], ["ox", "b", "a"]):
            rows = census(moulds, 1, 7)
            words = {self.hold(rows, [seen], moulds, None, 7) for seen in SEEN}
            self.assertIn(NoMaking, words)
            self.assertIn(1, words)

    def test_two_leaves_all_makings_gone_through(self):
        for moulds in (["ox"], ["ox", "a"]):
            rows = census(moulds, 2, 14)
            seen = SEEN if len(moulds) == 1 else SEEN[::2] + SEEN[-3:]
            words = set()
            for row in itertools.product(seen, repeat=2):
                for rule in (None, ("mates", 0, 1), ("apart", 1, 0)):
                    words.add((rule, self.hold(rows, list(row), moulds, rule, 14)))
            for rule in (None, ("mates", 0, 1), ("apart", 1, 0)):
                self.assertIn((rule, NoMaking), words)
                self.assertGreater(len([told for kind, told in words if kind == rule]), 2)

    def longer(self, moulds, many, most, times):
        rows = census(moulds, many, most)
        chance = random.Random(many * 100 + most)
        tried = [list(row) for row in chance.sample(sorted(rows), min(len(rows), times))]
        tried += some_rows(chance, moulds, [many], times)
        tried += [chance.sample(SEEN, many) for time in range(times)] + [[UNSEEN] * many]
        for row in tried:
            for rule in some_rules(chance, row):
                self.hold(rows, row, moulds, rule, most)

    def test_three_leaves(self):
        self.longer(["ox"], 3, 5, 60)
        self.longer(["ox", "a"], 3, 3, 40)
        self.longer(["ox", "a", "crown"], 3, 1, 30)

    def test_four_leaves(self):
        self.longer(["ox"], 4, 3, 60)
        self.longer(["ox", "a"], 4, 1, 60)

    def test_five_to_eight_leaves(self):
        self.longer(["ox"], 5, 2, 40)
        self.longer(["ox"], 6, 1, 40)
        self.longer(["ox"], 8, 0, 40)


class LongRows(unittest.TestCase):
    def hold(self, moulds, lengths, times):
        chance = random.Random(len(moulds))
        for row in some_rows(chance, moulds, lengths, times):
            for rule in some_rules(chance, row):
                told = asked(fewest, row, moulds, rule)
                best = asked(making, row, moulds, rule)
                if told is NoMaking:
                    self.assertIs(best, NoMaking)
                    continue
                self.assertEqual((lost(best), lost_count(best)), (told, told))
                self.assertIs(lets(row, moulds, best), True)
                self.assertTrue(is_good_making(best, moulds, row, rule), (row, rule, best))

    def test_one_mould(self):
        self.hold(["ox"], range(13), 12)

    def test_two_moulds(self):
        self.hold(["ox", "crown"], range(13), 8)

    def test_three_moulds(self):
        self.hold(["ox", "a", "oxen"], range(13), 6)

    def test_no_more_than_some_making_loses(self):
        chance = random.Random(5)
        for moulds in (["ox"], ["ox", "a", "crown"]):
            for many in range(13):
                for time in range(10):
                    some = some_making(chance, moulds, many)
                    self.assertLessEqual(fewest(left_row(some), moulds), lost_count(some))

    def test_whole_sheets_lose_nothing(self):
        for folds, lay in itertools.product((1, 2, 3), range(4)):
            sheet = ("ox", folds, lay)
            row = list(told_leaves(sheet))
            self.assertEqual(fewest(row, ["ox"]), 0)
            self.assertEqual(fewest(row, ["a", "ox"]), 0)

    def test_a_mould_more_and_a_leaf_less_looked_at_never_cost_more(self):
        chance = random.Random(6)
        for row in some_rows(chance, ["ox", "a"], range(1, 13), 4):
            told = asked(fewest, row, ["ox", "a"], None)
            if told is not NoMaking:
                self.assertLessEqual(fewest(row, ["a", "b", "ox"]), told)
                place = chance.randrange(len(row))
                self.assertLessEqual(fewest(row[:place] + [UNSEEN] + row[place + 1:], ["ox", "a"]), told)

    def test_the_fewest_under_no_rule_is_the_lesser_of_both(self):
        chance = random.Random(7)
        for row in some_rows(chance, ["ox", "a"], range(2, 13), 4):
            one, other = chance.sample(range(len(row)), 2)
            words = [asked(fewest, row, ["ox", "a"], (word, one, other)) for word in ("mates", "apart")]
            told = asked(fewest, row, ["ox", "a"], None)
            numbers = [word for word in words if word is not NoMaking]
            self.assertEqual(told, min(numbers, default=NoMaking))


class ByHand(unittest.TestCase):
    def test_no_leaves(self):
        for moulds in (["ox"], ["ox", "a"], ["ox", "a", "b"]):
            self.assertEqual(fewest([], moulds), 0)
            self.assertEqual(fewest([], moulds, None), 0)
            self.assertEqual(making([], moulds), [])
            self.assertEqual(making([], moulds, None), [])

    def test_one_leaf(self):
        self.assertEqual(fewest([("f", "ox", "abcd")], ["ox"]), 1)
        self.assertIn(making([("f", "ox", "abcd")], ["ox"]), ([[(("ox", 1, 0), (1,))]], [[(("ox", 1, 2), (0,))]]))
        self.assertEqual(fewest([("m", "ox", "ab")], ["ox"]), 3)
        self.assertEqual(fewest([("f", "ox", "b")], ["ox"]), 7)
        self.assertEqual(making([("m", "ox", "d")], ["ox"])[0][0][0][1], 3)

    def test_two_leaves(self):
        row = [("f", "ox", "abcd"), ("m", "", "")]
        self.assertEqual(fewest(row, ["ox"]), 0)
        self.assertEqual(making(row, ["ox"]), [[(("ox", 1, 0), ())]])
        self.assertEqual(fewest(row, ["ox"], ("mates", 0, 1)), 0)
        self.assertEqual(fewest(row, ["ox"], ("apart", 0, 1)), 2)

    def test_none_under_a_rule_alone(self):
        row = [("f", "ox", "abcd"), ("f", "", "")]
        self.assertEqual(fewest(row, ["ox"]), 2)
        self.assertEqual(fewest(row, ["ox"], ("apart", 0, 1)), 2)
        for ask in (fewest, making):
            with self.assertRaises(NoMaking):
                ask(row, ["ox"], ("mates", 0, 1))

    def test_none_of_a_mould_that_was_not_handed_in(self):
        for row in ([("?", "b", "abcd")], [UNSEEN, ("?", "b", "a")], [("m", "b", "ab")] * 12):
            for ask in (fewest, making):
                with self.assertRaises(NoMaking):
                    ask(row, ["ox", "a"])
            self.assertGreater(fewest(row, ["b"]), 0)

    def test_none_of_a_side_and_a_part_that_no_leaf_has_both(self):
        for up, mould, part in (("m", "ox", "a"), ("f", "ox", "b"), ("f", "ox", "c"), ("m", "ox", "d"), ("m", "ox", "ab")):
            down = "f" if up == "m" else "m"
            for row in ([(down, mould, part)], [UNSEEN, (down, mould, part)], [(down, mould, part)] * 12):
                self.assertEqual((asked(fewest, row, ["ox"], None), asked(making, row, ["ox"], None)), (NoMaking, NoMaking))
            self.assertEqual(fewest([(up, mould, part)], ["ox"]), 3 if part == "ab" else 7)

    def test_nested_sheets(self):
        row = [("f", "ox", "abcd"), ("m", "a", "abcd"), ("f", "", ""), ("m", "", "")]
        self.assertEqual(fewest(row, ["ox", "a"]), 0)
        self.assertEqual(making(row, ["ox", "a"]), [[(("ox", 1, 0), ()), (("a", 1, 3), ())]])
        self.assertEqual(fewest(row, ["ox", "a"], ("mates", 3, 0)), 0)
        self.assertEqual(fewest(row, ["ox", "a"], ("apart", 3, 0)), 2)

    def test_joined_rows(self):
        chance = random.Random(8)
        for moulds in (["ox"], ["ox", "a"]):
            for many in range(13):
                for first in range(many + 1):
                    one = left_row(some_making(chance, moulds, first))
                    other = left_row(some_making(chance, moulds, many - first))
                    both = fewest(one, moulds) + fewest(other, moulds)
                    self.assertLessEqual(fewest(one + other, moulds), both)
                    if not one or not other:
                        self.assertEqual(fewest(one + other, moulds), both)

    def test_joined_rows_of_unlike_sheets(self):
        row = [("f", "ox", "abcd"), ("m", "", "")]
        self.assertEqual([fewest(row * times, ["ox"]) for times in range(7)], [0] * 7)
        self.assertEqual([fewest(row * times + row[:1], ["ox"]) for times in range(6)], [1] * 6)


class Handed(unittest.TestCase):
    def test_what_is_handed_in_stays_and_what_is_told_is_new(self):
        chance = random.Random(9)
        for row in some_rows(chance, ["ox", "a"], range(1, 13), 3):
            for rule in some_rules(chance, row):
                handed, moulds = list(row), ["ox", "a"]
                told = asked(fewest, handed, moulds, rule)
                best = asked(making, handed, moulds, rule)
                self.assertEqual((handed, moulds), (row, ["ox", "a"]))
                if told is NoMaking:
                    continue
                self.assertIs(type(told), int)
                best[0].append("gone")
                best.append("gone")
                best[0][0] = "gone"
                again = making(handed, moulds, rule)
                kept = copy.deepcopy(again)
                self.assertIs(is_making(moulds, again), True)
                self.assertTrue(is_good_making(again, moulds, row, rule))
                self.assertEqual(lost_count(again), told)
                handed.append(("m", "b", "a"))
                moulds[0] = "b"
                self.assertEqual(fewest(row, ["ox", "a"], rule), told)
                self.assertEqual(again, kept)

    def test_moulds_in_any_order(self):
        chance = random.Random(10)
        for row in some_rows(chance, ["ox", "a", "crown"], (2, 5, 9), 3):
            for rule in some_rules(chance, row):
                words = {asked(fewest, row, list(moulds), rule) for moulds in itertools.permutations(["ox", "a", "crown"])}
                self.assertEqual(len(words), 1)

    def test_rule_is_none_by_default(self):
        row = [("f", "ox", "abcd"), ("m", "", "")]
        self.assertEqual(fewest(row, ["ox"]), fewest(row=row, moulds=["ox"], rule=None))
        self.assertEqual(making(row, ["ox"]), making(row=row, moulds=["ox"], rule=None))


class Refusals(unittest.TestCase):
    ROW = [("f", "ox", "abcd"), ("m", "", ""), UNSEEN]

    def refuse(self, refusal, row, moulds, rule):
        for ask in (fewest, making):
            handed = list(row), list(moulds)
            with self.assertRaises(refusal) as caught:
                ask(*handed, rule)
            self.assertIs(type(caught.exception), refusal)
            self.assertEqual(handed, (row, moulds))

    def test_in_their_order(self):
        long, bad, none = [UNSEEN] * 13, [BAD_LEAVES[0], UNSEEN], [("m", "b", "a"), UNSEEN]
        wrong = ("mates", 0, 0)
        for moulds in BAD_MOULDS:
            for row in (self.ROW, long, bad, none, [BAD_LEAVES[0]] * 13):
                for rule in (None, wrong, ("mates", 0, 1)):
                    self.refuse(BadMould, row, moulds, rule)
        for row in (long, bad * 7, none * 7, [UNSEEN] * 99):
            for rule in (None, wrong, ("mates", 0, 1)):
                self.refuse(BadRow, row, ["ox"], rule)
        for row in (bad, bad + none, none + bad):
            for rule in (None, wrong, ("mates", 0, 1)):
                self.refuse(BadLeaf, row, ["ox"], rule)
        self.refuse(BadRule, none, ["ox"], wrong)
        for rule in (None, ("mates", 0, 1), ("apart", 0, 1)):
            self.refuse(NoMaking, none, ["ox"], rule)

    def test_twelve_leaves_are_let_by(self):
        self.assertEqual(fewest([UNSEEN] * 12, ["ox"]), 0)
        self.assertEqual(lost(making([UNSEEN] * 12, ["ox"])), 0)

    def test_each_bad_leaf_at_each_place(self):
        for leaf in BAD_LEAVES:
            for place in range(12):
                self.refuse(BadLeaf, [UNSEEN] * place + [leaf] + [UNSEEN] * (11 - place), ["ox"], None)

    def test_rules_of_another_first_text(self):
        for word in ("", "mate", "Mates", "mates ", " mates", "aparts", "either", "matesapart", "\n", "?"):
            self.refuse(BadRule, self.ROW, ["ox"], (word, 0, 1))

    def test_rules_of_other_numbers(self):
        for word in ("mates", "apart"):
            for many in range(4):
                row = self.ROW[:many]
                for number in range(many):
                    self.refuse(BadRule, row, ["ox"], (word, number, number))
                    for other in NEAR_AND_FAR + (many, many + 1):
                        self.refuse(BadRule, row, ["ox"], (word, number, other))
                        self.refuse(BadRule, row, ["ox"], (word, other, number))
                self.refuse(BadRule, row, ["ox"], (word, many, many + 1))
                self.refuse(BadRule, row, ["ox"], (word, -1, -2))
                self.refuse(BadRule, row, ["ox"], (word, FAR, FAR))
            self.refuse(BadRule, self.ROW, ["ox"], (word, True, 0))
            self.refuse(BadRule, self.ROW, ["ox"], (word, 1, False))

    def test_each_rule_of_two_unlike_leaves(self):
        for many in (2, 3, 7, 12):
            for one, other in itertools.combinations(range(many), 2):
                if many == 12 and one % 5:
                    continue
                told = [fewest([UNSEEN] * many, ["ox"], (word, one, other)) for word in ("mates", "apart")]
                turned = [fewest([UNSEEN] * many, ["ox"], (word, other, one)) for word in ("mates", "apart")]
                self.assertEqual(told, turned)


class Certified(unittest.TestCase):
    def test_no_making_loses_fewer(self):
        chance = random.Random(13)
        for moulds, lengths in ((["ox"], range(2, 13, 2)), (["ox", "a", "crown"], (5, 9))):
            for row in some_rows(chance, moulds, lengths, 2):
                for rule in some_rules(chance, row):
                    told = asked(fewest, row, moulds, rule)
                    count = 7 * len(row) + 1 if told is NoMaking else told
                    self.assertTrue(bars_by(row, moulds, rule, paper(row, moulds, rule, count), count))
