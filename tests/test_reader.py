import copy
import random
import unittest

from leafmate import errors
from leafmate.counts import many, told
from leafmate.fewest import fewest
from leafmate.papers import bars, paper
from leafmate.reader import Reader
from tests.paper import (
    BAD_LEAVES, BAD_MOULDS, FAR, UNSEEN, answer, is_good_making, left_row, looked_at, lost_count, some_making, some_rows,
)

MOULDS = ["ox", "a"]
OUT = (-1, -2, 99, FAR, -FAR)


def filled(row, moulds=MOULDS):
    reader = Reader(list(moulds))
    for place, seen in enumerate(row):
        reader.see(place, seen)
    return reader


class Base(unittest.TestCase):
    def refuse(self, refusal, reader, name, *things):
        before = reader.seen()
        with self.assertRaises(refusal) as caught:
            getattr(reader, name)(*things)
        self.assertIs(type(caught.exception), refusal)
        self.assertEqual(reader.seen(), before)

    def hold(self, reader, row, moulds=MOULDS):
        """The reader tells of its row what the modules tell of it."""
        self.assertEqual(reader.seen(), row)
        best = answer(fewest, row, moulds)
        self.assertEqual(answer(reader.fewest), best)
        self.assertEqual(answer(reader.many), answer(many, row, moulds))
        if best == "NoMaking":
            self.assertEqual(answer(reader.making), best)
        else:
            self.assertTrue(is_good_making(reader.making(), moulds, row))
            self.assertEqual(lost_count(reader.making()), best)
        for count in (0, 1, 2, 7):
            found = reader.paper(count)
            self.assertEqual(found is None, paper(row, moulds, None, count) is None)
            if found is not None:
                self.assertIs(bars(row, moulds, None, found, count), True)
        last = len(row) - 1
        for one, other in ((0, last), (last, 0), (1, 2), (0, 0), (-1, 0), (0, len(row)), (len(row), len(row))):
            word = answer(told, row, moulds, one, other)
            self.assertEqual(answer(reader.told, one, other), word)
            found = answer(reader.why, one, other)
            self.assertEqual(found[0] if type(found) is tuple else found, word)


class Deeds(Base):
    def test_bad_mould(self):
        for moulds in BAD_MOULDS:
            handed = list(moulds)
            with self.assertRaises(errors.BadMould):
                Reader(handed)
            self.assertEqual(handed, moulds)

    def test_no_leaves(self):
        for moulds in (["ox"], ["ox", "a", "b"]):
            reader = Reader(moulds)
            self.hold(reader, [], moulds)
            self.assertEqual((reader.fewest(), reader.making(), reader.many()), (0, [], 1))
            for at in OUT + (0, 1):
                self.refuse(errors.NoPlace, reader, "right", at, UNSEEN)
                self.refuse(errors.NoPlace, reader, "strike", at)
                self.refuse(errors.NoPlace, reader, "told", at, 0)
                self.refuse(errors.NoPlace, reader, "why", 0, at)

    def test_see_at_every_place(self):
        row = left_row(some_making(random.Random(1), MOULDS, 11))
        for many_seen in range(12):
            for at in range(many_seen + 1):
                reader = filled(row[:many_seen])
                self.assertIsNone(reader.see(at, ("?", "far", "a")))
                self.assertEqual(reader.seen(), row[:at] + [("?", "far", "a")] + row[at:many_seen])
            for at in OUT + (many_seen + 1, many_seen + 2):
                self.refuse(errors.NoPlace, filled(row[:many_seen]), "see", at, UNSEEN)

    def test_right_and_strike_at_every_place(self):
        row = left_row(some_making(random.Random(2), MOULDS, 12))
        for many_seen in range(1, 13):
            for at in range(many_seen):
                reader = filled(row[:many_seen])
                self.assertEqual(reader.right(at, ("m", "?", "?")), row[at])
                self.assertEqual(reader.seen(), row[:at] + [("m", "?", "?")] + row[at + 1:many_seen])
                self.assertEqual(reader.strike(at), ("m", "?", "?"))
                self.assertEqual(reader.seen(), row[:at] + row[at + 1:many_seen])
            for at in OUT + (many_seen, many_seen + 1):
                reader = filled(row[:many_seen])
                self.refuse(errors.NoPlace, reader, "right", at, UNSEEN)
                self.refuse(errors.NoPlace, reader, "strike", at)

    def test_refusals_in_their_order(self):
        full = filled([UNSEEN] * 12)
        for leaf in BAD_LEAVES:
            for reader in (full, filled([UNSEEN] * 3)):
                size = len(reader.seen())
                for at in OUT + (size + 1, True):
                    self.refuse(errors.NoPlace, reader, "see", at, leaf)
                    self.refuse(errors.NoPlace, reader, "right", at, leaf)
                self.refuse(errors.NoPlace, reader, "right", size, leaf)
                for at in range(size + 1):
                    self.refuse(errors.BadLeaf, reader, "see", at, leaf)
                for at in range(size):
                    self.refuse(errors.BadLeaf, reader, "right", at, leaf)
        for at in range(13):
            self.refuse(errors.Full, full, "see", at, UNSEEN)
        for at in OUT + (13, 14):
            self.refuse(errors.NoPlace, full, "see", at, UNSEEN)
        self.assertEqual(full.right(11, ("m", "", "")), UNSEEN)
        self.assertEqual(full.strike(0), UNSEEN)
        full.see(11, UNSEEN)
        self.refuse(errors.Full, full, "see", 0, UNSEEN)

    def test_told_lists_are_new(self):
        row = left_row(some_making(random.Random(3), MOULDS, 5))
        reader = filled(row)
        self.hold(reader, row)
        seen = reader.seen()
        seen[0] = "gone"
        seen.append("gone")
        reader.making().clear()
        reader.making()[0].append("gone")
        reader.paper(0)[0][0].clear()
        reader.paper(0)[1].append(1)
        for thing in reader.why(0, 1)[1:]:
            thing[0].append("gone")
        self.hold(reader, row)

    def test_handed_moulds_changed_behind(self):
        moulds = ["ox", "a"]
        reader = Reader(moulds)
        reader.see(0, ("?", "a", "abcd"))
        moulds[1] = "b"
        moulds.append("c")
        self.hold(reader, [("?", "a", "abcd")])
        reader.see(0, ("?", "b", "abcd"))
        self.refuse(errors.NoMaking, reader, "fewest")


class Questions(Base):
    def test_rows(self):
        chance = random.Random(4)
        for moulds in (["ox"], ["ox", "a", "b"]):
            for row in some_rows(chance, moulds, range(13), 2):
                self.hold(filled(row, moulds), row, moulds)

    def test_asked_again_behind_each_change(self):
        for seed in range(6):
            chance = random.Random(seed)
            row = []
            reader = Reader(MOULDS)
            for time in range(14):
                leaf = looked_at(chance, left_row(some_making(chance, MOULDS, 1)), 0.8)[0]
                deed = chance.choice(("see", "see", "right", "strike") if row else ("see",))
                at = chance.randrange(len(row) + (deed == "see"))
                if deed == "see":
                    self.assertIsNone(reader.see(at, leaf))
                    row.insert(at, leaf)
                elif deed == "right":
                    self.assertEqual(reader.right(at, leaf), row[at])
                    row[at] = leaf
                else:
                    self.assertEqual(reader.strike(at), row.pop(at))
                self.hold(reader, row)

    def test_refusals(self):
        reader = filled([("m", "b", "a"), UNSEEN])
        for name in ("fewest", "making", "many"):
            self.refuse(errors.NoMaking, reader, name)
        for name in ("told", "why"):
            for number in OUT + (2,):
                self.refuse(errors.NoPlace, reader, name, number, number)
                self.refuse(errors.NoPlace, reader, name, 0, number)
                self.refuse(errors.NoPlace, reader, name, number, 1)
            self.refuse(errors.SameOne, reader, name, 1, 1)
            self.refuse(errors.NoMaking, reader, name, 0, 1)
        for count in (0, -1, 5, FAR):
            self.assertIs(bars(reader.seen(), MOULDS, None, reader.paper(count), count), True)


class Twin(Base):
    def test_goes_its_own_way(self):
        row = left_row(some_making(random.Random(5), MOULDS, 6))
        for name, things in (("see", (2, UNSEEN)), ("right", (3, ("f", "zebra", "d"))), ("strike", (0,))):
            reader = filled(row)
            twin = reader.twin()
            self.assertIs(type(twin), Reader)
            self.hold(twin, row)
            getattr(twin, name)(*things)
            self.hold(reader, row)
            self.assertNotEqual(twin.seen(), row)
            other = reader.twin()
            getattr(reader, name)(*things)
            self.hold(other, row)
            self.assertEqual(reader.seen(), twin.seen())
            self.hold(twin, reader.seen())

    def test_keeps_the_moulds(self):
        moulds = ["ox", "a"]
        reader = Reader(moulds)
        twin = reader.twin()
        moulds[0] = "b"
        twin.see(0, ("f", "ox", "abcd"))
        self.assertEqual(copy.copy(twin).fewest(), 1)
