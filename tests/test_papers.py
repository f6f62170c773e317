import copy
import itertools
import random
import unittest

from leafmate.errors import BadLeaf, BadMould, BadRow, BadRule, NoMaking
from leafmate.fewest import fewest
from leafmate.papers import bars, paper
from tests.paper import (
    BAD_LEAVES, BAD_MOULDS, FAR, UNSEEN, bars_by, census, left_row, lost_count, reckoned_by, some_making, some_rows,
    some_rules,
)

ROW = [("f", "ox", "abcd"), UNSEEN, ("m", "?", "?"), ("?", "", "")]


def fewest_or_none(row, moulds, rule):
    try:
        return fewest(row, moulds, rule)
    except NoMaking:
        return None


def has_form(told, many):
    """Whether it is a pair of new lists with just so many numbers as point [14] tells."""
    if type(told) is not tuple or len(told) != 2:
        return False
    stretches, starts = told
    if type(stretches) is not list or [type(numbers) for numbers in stretches] != [list] * many or type(starts) is not list:
        return False
    numbers = list(itertools.chain(starts, *stretches))
    lengths = [len(numbers) for numbers in stretches] == list(range(many, 0, -1))
    return lengths and len(starts) == many + 1 and all(type(number) is int for number in numbers)


def changed_papers(told):
    """The paper with one number changed: one more, one less, far."""
    stretches, starts = told
    for change in (1, -1, FAR, -FAR):
        for place in range(len(starts)):
            yield stretches, starts[:place] + [starts[place] + change] + starts[place + 1:]
        for i, numbers in enumerate(stretches):
            for k, number in enumerate(numbers):
                other = numbers[:k] + [number + change] + numbers[k + 1:]
                yield stretches[:i] + [other] + stretches[i + 1:], starts


class Paper(unittest.TestCase):
    def hold(self, row, moulds, rule, best):
        """The fewest lost is best, or None where there is no making."""
        counts = [-FAR, -7, -1, 0, 1, 2]
        if best is not None:
            counts += [best - 1, best, best + 1, best + 2, best + 50, FAR]
        else:
            counts += [7 * len(row), 7 * len(row) + 1, 7 * len(row) + 2, FAR]
        for count in counts:
            told = paper(row, moulds, rule, count)
            if best is not None and best < count:
                self.assertIsNone(told)
                continue
            self.assertTrue(has_form(told, len(row)), told)
            self.assertIs(bars(row, moulds, rule, told, count), True)
            self.assertTrue(bars_by(row, moulds, rule, told, count))
            if best is not None:
                self.assertIs(bars(row, moulds, rule, told, best + 1), False)

    def test_short_rows_against_all_makings(self):
        chance = random.Random(1)
        for many, most, times in ((0, 0, 1), (1, 7, 12), (2, 14, 24)):
            rows = census(["ox"], many, most)
            for row in some_rows(chance, ["ox"], [many], times) + [[("f", "ox", "d")] * many, [UNSEEN] * many]:
                for rule in some_rules(chance, row):
                    self.hold(row, ["ox"], rule, (reckoned_by(rows, row, rule) or [None])[0])

    def test_longer_rows(self):
        chance = random.Random(2)
        for row in some_rows(chance, ["ox"], range(3, 7), 2):
            for rule in some_rules(chance, row):
                self.hold(row, ["ox"], rule, fewest_or_none(row, ["ox"], rule))

    def test_twelve_leaves(self):
        chance = random.Random(3)
        for row in some_rows(chance, ["ox"], [12], 2):
            for rule in some_rules(chance, row):
                best = fewest_or_none(row, ["ox"], rule)
                count = 99 if best is None else best
                told = paper(row, ["ox"], rule, count)
                self.assertTrue(has_form(told, 12))
                self.assertTrue(bars_by(row, ["ox"], rule, told, count))

    def test_two_and_three_moulds(self):
        chance = random.Random(4)
        for moulds in (["ox", "a"], ["ox", "a", "crown"]):
            for row in some_rows(chance, moulds, range(0, 13, 2), 3):
                for rule in some_rules(chance, row):
                    best = fewest_or_none(row, moulds, rule)
                    for count in (99, FAR) if best is None else (best, best - 1, -1):
                        told = paper(row, moulds, rule, count)
                        self.assertTrue(has_form(told, len(row)))
                        self.assertIs(bars(row, moulds, rule, told, count), True)
                    if best is not None:
                        self.assertIsNone(paper(row, moulds, rule, best + 1))
                        self.assertIs(bars(row, moulds, rule, told, best + 1), False)

    def test_no_paper_bars_what_some_making_loses(self):
        chance = random.Random(5)
        for many in range(1, 13):
            for time in range(6):
                making = some_making(chance, ["ox", "a"], many)
                row = left_row(making)
                self.assertIsNone(paper(row, ["ox", "a"], None, lost_count(making) + 1))

    def test_no_leaves(self):
        for count in (0, -1, -FAR):
            told = paper([], ["ox"], None, count)
            self.assertTrue(has_form(told, 0))
            self.assertIs(bars([], ["ox"], None, told, count), True)
        for count in (1, 2, FAR):
            self.assertIsNone(paper([], ["ox"], None, count))

    def test_no_making_at_all(self):
        for row in ([("f", "ox", "d")], [UNSEEN, ("m", "b", "a"), UNSEEN]):
            for count in (-FAR, -1, 0, 1, 7, 8, 100, FAR):
                told = paper(row, ["ox"], None, count)
                self.assertTrue(has_form(told, len(row)))
                self.assertTrue(bars_by(row, ["ox"], None, told, count))
                self.assertIs(bars(row, ["ox"], None, told, count), True)

    def test_new_lists_each_time(self):
        for rule in (None, ("mates", 0, 3), ("apart", 1, 2)):
            row, moulds = list(ROW), ["ox"]
            kept = copy.deepcopy(paper(row, moulds, rule, 0))
            told = paper(row, moulds, rule, 0)
            told[0][1][0] = FAR
            told[0].append([1])
            told[0][0].pop()
            told[1][0] = 99
            again = paper(row, moulds, rule, 0)
            self.assertEqual(again, kept)
            self.assertEqual((row, moulds), (ROW, ["ox"]))
            row.append(UNSEEN)
            moulds.append("a")
            self.assertEqual(again, kept)


class Bars(unittest.TestCase):
    def hold(self, row, moulds, rule, told, count):
        handed = list(row), list(moulds), copy.deepcopy(told)
        expected = bars_by(row, moulds, rule, told, count)
        self.assertIs(bars(handed[0], handed[1], rule, handed[2], count), expected, (row, rule, told, count))
        self.assertEqual(handed, (row, moulds, told))
        return expected

    def test_each_number_changed(self):
        chance = random.Random(6)
        words = set()
        rows = some_rows(chance, ["ox"], (1, 2, 3), 3) + some_rows(chance, ["ox"], (4, 5), 1) + [ROW]
        for row in rows:
            for rule in some_rules(chance, row):
                best = fewest_or_none(row, ["ox"], rule)
                for count in (7,) if best is None else (best, best - 1):
                    told = paper(row, ["ox"], rule, count)
                    for other in changed_papers(told):
                        words.add(self.hold(row, ["ox"], rule, other, count))
        self.assertEqual(words, {True, False})

    def test_the_paper_of_one_rule_under_another(self):
        chance = random.Random(7)
        words = set()
        for row in some_rows(chance, ["ox"], range(2, 7), 3):
            one, other = chance.sample(range(len(row)), 2)
            rules = [None, ("mates", one, other), ("apart", one, other)]
            for rule in rules:
                best = fewest_or_none(row, ["ox"], rule)
                count = 9 if best is None else best
                told = paper(row, ["ox"], rule, count)
                for another in rules + [("mates", other, one), ("apart", other, one)]:
                    words.add((another and another[0], self.hold(row, ["ox"], another, told, count)))
        self.assertEqual(words, set(itertools.product((None, "mates", "apart"), (True, False))))

    def test_other_moulds(self):
        row = [("f", "ox", "abcd"), ("m", "a", "abcd")]
        for moulds in (["ox"], ["a"], ["ox", "a"], ["a", "b", "ox"]):
            best = fewest_or_none(row, moulds, None)
            count = 5 if best is None else best
            told = paper(row, moulds, None, count)
            for others in (["ox"], ["a"], ["ox", "a"], ["b"]):
                self.hold(row, others, None, told, count)

    def test_counts(self):
        told = paper(ROW, ["ox"], None, fewest(ROW, ["ox"]))
        for count in range(-3, 4):
            self.assertIs(bars(ROW, ["ox"], None, told, count), count <= fewest(ROW, ["ox"]))
        self.assertIs(bars(ROW, ["ox"], None, told, FAR), False)
        self.assertIs(bars(ROW, ["ox"], None, told, -FAR), True)

    def test_starts_alone(self):
        zero = [[0, 0], [0]]
        row = [UNSEEN, UNSEEN]
        for starts in itertools.product((-2, -1, 0, 1), repeat=3):
            for count in (-2, -1, 0, 1):
                self.hold(row, ["ox"], None, (zero, list(starts)), count)
        self.assertIs(bars(row, ["ox"], None, (zero, [0, 0, 0]), 0), True)
        self.assertIs(bars(row, ["ox"], None, (zero, [1, 1, 1]), 0), False)
        self.assertIs(bars(row, ["ox"], None, (zero, [0, 0, 1]), 0), False)
        self.assertIs(bars(row, ["ox"], None, (zero, [0, -1, -1]), 0), False)
        self.assertIs(bars(row, ["ox"], None, (zero, [0, -1, -1]), -1), True)

    def test_all_small_numbers_of_two_leaves(self):
        rows = ([("f", "ox", "abcd"), ("m", "", "")], [("f", "ox", "abcd"), ("f", "", "")])
        for row in rows:
            for rule in (None, ("mates", 0, 1), ("apart", 1, 0)):
                for a, b, c in itertools.product((-1, 0, 1, 2, 3), repeat=3):
                    for starts in ([0, 1, 2], [0, 0, 0], [-1, 0, 1]):
                        self.hold(row, ["ox"], rule, ([[a, b], [c]], starts), starts[-1])

    def test_more_or_fewer_lists_or_numbers(self):
        for many in range(5):
            row = ROW[:many]
            stretches, starts = paper(row, ["ox"], None, 0)
            wrong = [(stretches, starts + [0]), (stretches, starts[:-1]), (stretches, []), (stretches + [[]], starts)]
            wrong += [(stretches + [[0]], starts), ([[0]] + stretches, starts)]
            wrong += [(stretches[:i] + stretches[i + 1:], starts) for i in range(many)]
            for i in range(many):
                numbers = stretches[i]
                for other in (numbers + [0], numbers[:-1], [], numbers * 2):
                    if len(other) != len(numbers):
                        wrong.append((stretches[:i] + [other] + stretches[i + 1:], starts))
            if many:
                wrong += [([], starts), (stretches[::-1], starts) if many > 1 else ([[0, 0]], starts)]
                wrong += [([[0] * many for number in range(many)], starts)] if many > 1 else []
            for told in wrong:
                for count in (-FAR, -1, 0):
                    self.assertFalse(bars_by(row, ["ox"], None, told, count))
                    self.assertIs(self.hold(row, ["ox"], None, told, count), False)

    def test_true_and_false_are_no_numbers(self):
        row = [UNSEEN]
        self.assertIs(bars(row, ["ox"], None, ([[0]], [0, 0]), 0), True)
        for told in (([[False]], [0, 0]), ([[0]], [False, 0]), ([[0]], [0, False]), ([[True]], [0, True])):
            self.assertIs(bars(row, ["ox"], None, told, 0), False)


class Refusals(unittest.TestCase):
    def refuse(self, refusal, row, moulds, rule):
        told = ([], [0])
        for ask in (lambda: paper(row, moulds, rule, 0), lambda: bars(row, moulds, rule, told, 0)):
            with self.assertRaises(refusal) as caught:
                ask()
            self.assertIs(type(caught.exception), refusal)
        self.assertEqual(told, ([], [0]))

    def test_in_their_order(self):
        bad, none = [BAD_LEAVES[0], UNSEEN], [("m", "b", "a"), UNSEEN]
        rules = (None, ("mates", 0, 0), ("mates", 0, 1), ("far", 0, 1))
        for rule in rules:
            for moulds in BAD_MOULDS:
                for row in (ROW, bad, none, [UNSEEN] * 13, bad * 7):
                    self.refuse(BadMould, row, moulds, rule)
            for row in ([UNSEEN] * 13, bad * 7, none * 7):
                self.refuse(BadRow, row, ["ox"], rule)
            for leaf in BAD_LEAVES:
                self.refuse(BadLeaf, [UNSEEN, leaf], ["ox"], rule)
        for word in ("mates", "apart"):
            for one, other in ((0, 0), (1, 1), (0, 2), (2, 0), (-1, 0), (0, -1), (FAR, 0), (0, -FAR), (2, 3)):
                self.refuse(BadRule, none, ["ox"], (word, one, other))
        for word in ("", "mate", "Apart", "none"):
            self.refuse(BadRule, none, ["ox"], (word, 0, 1))
        for row in ([], [UNSEEN]):
            self.refuse(BadRule, row, ["ox"], ("mates", 0, 1))
