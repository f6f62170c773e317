"""A sheet of eight fields, folded field by field as points [2] to [6] say; gatherings, makings and books of such sheets.

Nothing here comes from the package: the tests hold the package against it.
"""

import collections
import functools
import itertools
import re

FOLDS = (1, 2, 3)
LAYS = (0, 1, 2, 3)
# Python writes out no number of so many digits, so a message must not try to.
FAR = 10 ** 5000
BAD_FOLDS = (0, 4, -1, -2, 5, 99, -99, FAR, -FAR)
BAD_LAYS = (-1, 4, -2, 5, 99, -99, FAR, -FAR)

# All signs that texts have.
SIGNS = "".join(chr(code) for code in range(32, 127) if code != 37) + "\n"
LETTERS = "abcdefghijklmnopqrstuvwxyz"
BAD_NAMES = (
    "", "abcdefghi", "a" * 100, "A", "Abc", "abC", "a1", "1", "a b", " ab", "ab ", "ab\n", "\n", "?", "a?", "a-b",
)
BAD_SHEETS = tuple(
    [("ab", folds, 0) for folds in BAD_FOLDS] + [("ab", 3, lay) for lay in BAD_LAYS]
    + [(name, 1, 0) for name in BAD_NAMES] + [("", 0, 4)]
)

UPPER_OVER_LOWER = 0
LEFT_OVER_RIGHT = 1
STEPS = {
    1: [LEFT_OVER_RIGHT],
    2: [UPPER_OVER_LOWER, LEFT_OVER_RIGHT],
    3: [LEFT_OVER_RIGHT, UPPER_OVER_LOWER, LEFT_OVER_RIGHT],
}
GRID = {1: (1, 2), 2: (2, 2), 3: (2, 4)}
COUNT = {1: 2, 2: 4, 3: 8}

HOME = {"a": (0, 0), "b": (0, 1), "c": (1, 0), "d": (1, 1)}
MOVED = {
    0: lambda r, c: (r, c),
    1: lambda r, c: (1 - r, 3 - c),
    2: lambda r, c: (r, 3 - c),
    3: lambda r, c: (1 - r, c),
}
SIDE_UP = {0: "m", 1: "m", 2: "f", 3: "f"}


def fold_over(piles, axis):
    """Fold the half with the lower rows (axis 0) or columns (axis 1) over the other."""
    ends = min(spot[axis] for spot in piles) + max(spot[axis] for spot in piles)
    folded = {}
    for spot, below in piles.items():
        if 2 * spot[axis] > ends:
            across = list(spot)
            across[axis] = ends - spot[axis]
            above = [(field, turns + 1) for field, turns in reversed(piles[tuple(across)])]
            folded[spot] = above + below
    return folded


@functools.cache
def folded_leaves(folds):
    """For each leaf from the uppermost on: the set of its fields, and whether it is over."""
    piles = {(r, c): [((r, c), 0)] for r in range(2) for c in range(4)}
    for axis in STEPS[folds]:
        piles = fold_over(piles, axis)
    leaves = []
    for layer in zip(*piles.values(), strict=True):
        turned = {turns % 2 == 1 for field, turns in layer}
        assert len(turned) == 1
        leaves.append(({field for field, turns in layer}, turned.pop()))
    return leaves


def folded_pile(folds):
    """(row, column, over) of each leaf's cell, rows and columns counted among the cells."""
    corners = [(min(fields), over) for fields, over in folded_leaves(folds)]
    rows = sorted({r for (r, c), over in corners})
    columns = sorted({c for (r, c), over in corners})
    return [(rows.index(r), columns.index(c), over) for (r, c), over in corners]


def told_pairs(folds, lay):
    """(side, part) of each leaf."""
    other = {"m": "f", "f": "m"}
    pairs = []
    for fields, over in folded_leaves(folds):
        side = other[SIDE_UP[lay]] if over else SIDE_UP[lay]
        part = "".join(q for q in "abcd" if MOVED[lay](*HOME[q]) in fields)
        pairs.append((side, part))
    return pairs


@functools.cache
def told_leaves(sheet):
    """(side, mould, part) of each leaf of a sheet; nobody changes this list."""
    mould, folds, lay = sheet
    return [(side, mould if part != "" else "", part) for side, part in told_pairs(folds, lay)]


def nested(sheets):
    """(number of the sheet, number of its leaf) as they lie: each sheet put into the middle of what is there."""
    pile = []
    for number, (mould, folds, lay) in enumerate(sheets):
        middle = len(pile) // 2
        pile[middle:middle] = [(number, leaf) for leaf in range(COUNT[folds])]
    return pile


BAD_MOULDS = ([], ["a", "b", "c", "d"], ["ox", "ox"], ["ox", "a", "ox"], ["Ox"], ["ox", ""], ["abcdefghi"], ["a b"])
UNSEEN = ("?", "?", "?")
BAD_LEAVES = (
    ("x", "ox", "ab"), ("", "ox", "ab"), ("m", "", "ab"), ("m", "ox", ""), ("m", "?", "ab"), ("m", "ox", "?"),
    ("m", "ox", "ac"), ("m", "Ox", "ab"), ("m", "?", ""), ("m", "", "?"), ("ox", "m", "ab"), ("m", "abcdefghi", "a"),
)


def fit(seen, leaf):
    """Whether what was looked at is the same."""
    return seen[0] in ("?", leaf[0]) and (seen[1:] == ("?", "?") or seen[1:] == leaf[1:])


def left_leaves(making):
    """(number of the gathering, of the sheet, of the leaf, the leaf itself) of the leaves that are not lost."""
    left = []
    for number, gathering in enumerate(making):
        for sheet, leaf in nested([sheet for sheet, gone in gathering]):
            if leaf not in gathering[sheet][1]:
                left.append((number, sheet, leaf, told_leaves(gathering[sheet][0])[leaf]))
    return left


def left_row(making):
    """The leaves that are not lost."""
    return [leaf for number, sheet, place, leaf in left_leaves(making)]


def lost_count(making):
    return sum(len(gone) for gathering in making for sheet, gone in gathering)


def mate_pairs(making):
    """The pairs (lower, higher) of places in the row that are mates of one sheet."""
    left = left_leaves(making)
    pairs = set()
    for (i, one), (j, other) in itertools.combinations(enumerate(left), 2):
        folds = making[one[0]][one[1]][0][1]
        if one[:2] == other[:2] and one[2] + other[2] == COUNT[folds] - 1:
            pairs.add((i, j))
    return frozenset(pairs)


def keeps(pairs, rule):
    """Whether a making of these pairs of mates keeps the rule."""
    if rule is None:
        return True
    word, one, other = rule
    return ((min(one, other), max(one, other)) in pairs) == (word == "mates")


def is_good_making(making, moulds, row, rule=None):
    """Whether it is a making of the moulds that lets the row by and keeps the rule."""
    if type(making) is not list or not all(type(gathering) is list and gathering for gathering in making):
        return False
    for sheet, gone in itertools.chain(*making):
        mould, folds, lay = sheet
        if mould not in moulds or folds not in FOLDS or lay not in LAYS or type(gone) is not tuple:
            return False
        if gone != tuple(sorted(set(gone) & set(range(COUNT[folds])))) or len(gone) == COUNT[folds]:
            return False
    left = left_row(making)
    if len(left) != len(row) or not all(fit(seen, leaf) for seen, leaf in zip(row, left)):
        return False
    return keeps(mate_pairs(making), rule)


def pieces(moulds):
    """All pairs of a sheet and leaves that it can have lost."""
    return [
        (sheet, gone)
        for sheet in itertools.product(moulds, FOLDS, LAYS)
        for many in range(COUNT[sheet[1]])
        for gone in itertools.combinations(range(COUNT[sheet[1]]), many)
    ]


def all_makings(moulds, left, lost):
    """All makings of which so many leaves are left and at most so many are lost, one by one."""
    found = [(COUNT[sheet[1]] - len(gone), len(gone), (sheet, gone)) for sheet, gone in pieces(moulds)]

    def grown(making, left, lost):
        if left == 0:
            yield making
        for kept, gone, piece in found:
            if kept <= left and gone <= lost:
                yield from grown(making + [[piece]], left - kept, lost - gone)
                if making:
                    yield from grown(making[:-1] + [making[-1] + [piece]], left - kept, lost - gone)

    return grown([], left, lost)


def census(moulds, left, lost):
    """Of all these makings: for each row how many lose so many leaves and have these mates."""
    rows = collections.defaultdict(collections.Counter)
    for making in all_makings(moulds, left, lost):
        rows[tuple(left_row(making))][lost_count(making), mate_pairs(making)] += 1
    return rows


def reckoned_by(rows, row, rule=None):
    """(the fewest lost, how many makings lose just these) by the census, or None where it has no such making."""
    many = collections.Counter()
    for left, found in rows.items():
        if all(fit(seen, leaf) for seen, leaf in zip(row, left)):
            for (lost, pairs), times in found.items():
                if keeps(pairs, rule):
                    many[lost] += times
    return min(many.items(), default=None)


def kept_well(row, told, gone, i, j, rule):
    """(x, y, lost) where the sheet of these leaves, less the lost ones, can lie around seen leaves i to j - 1, or None."""
    size = len(told)
    first = [leaf for leaf in range(size // 2) if leaf not in gone]
    second = [leaf for leaf in range(size // 2, size) if leaf not in gone]
    x, y = len(first), len(second)
    if x + y > j - i:
        return None
    kept = dict(zip([*range(i, i + x), *range(j - y, j)], first + second))
    if not all(fit(row[place], told[leaf]) for place, leaf in kept.items()):
        return None
    if rule is not None:
        both = [kept[place] for place in rule[1:] if place in kept]
        mates = len(both) == 2 and sum(both) == size - 1
        if mates if rule[0] == "apart" else (both and not mates):
            return None
    return x, y, len(gone)


def bars_by(row, moulds, rule, paper, count):
    """Point [14], condition by condition."""
    stretches, starts = paper
    n = len(row)
    if [len(numbers) for numbers in stretches] != list(range(n, 0, -1)) or len(starts) != n + 1:
        return False
    if starts[0] > 0 or starts[n] < count:
        return False
    s = {(i, i): 0 for i in range(n + 1)}
    s.update({(i, j): stretches[i][j - i - 1] for i in range(n) for j in range(i + 1, n + 1)})
    if any(starts[j] > starts[i] + s[i, j] for i in range(n) for j in range(i + 1, n + 1)):
        return False
    for sheet, gone in pieces(moulds):
        told = told_leaves(sheet)
        for i, j in itertools.combinations(range(n + 1), 2):
            kept = kept_well(row, told, gone, i, j, rule)
            if kept is not None and s[i, j] > kept[2] + s[i + kept[0], j - kept[1]]:
                return False
    return True


def some_making(chance, moulds, left):
    """Some making of which just so many leaves are left; chance is a random.Random of a told seed."""
    making = []
    while left > 0:
        sheet = (chance.choice(moulds), chance.choice(FOLDS), chance.choice(LAYS))
        size = COUNT[sheet[1]]
        kept = chance.choice([min(size, left), chance.randint(1, min(size, left))])
        gone = tuple(sorted(chance.sample(range(size), size - kept)))
        if making and chance.random() < 0.6:
            making[-1].append((sheet, gone))
        else:
            making.append([(sheet, gone)])
        left -= kept
    return making


def looked_at(chance, row, share):
    """The row with some of it not looked at."""
    seen = []
    for up, mould, part in row:
        side = up if chance.random() < share else "?"
        seen.append((side, mould, part) if chance.random() < share else (side, "?", "?"))
    return seen


def some_rows(chance, moulds, lengths, times):
    """Rows of these lengths, of some makings, looked at in part, some with a leaf that does not belong there."""
    rows = []
    for length in lengths:
        for time in range(times):
            row = looked_at(chance, left_row(some_making(chance, moulds, length)), (1, 0.7, 0.4)[time % 3])
            if length and time % 4 == 3:
                sheet = (chance.choice(moulds), chance.choice(FOLDS), chance.choice(LAYS))
                row[chance.randrange(length)] = chance.choice(told_leaves(sheet))
            rows.append(row)
    return rows


def some_rules(chance, row):
    """No rule, and where the row has two leaves one of each kind, either way about."""
    if len(row) < 2:
        return [None]
    return [None] + [(word, *chance.sample(range(len(row)), 2)) for word in ("mates", "apart")]


def counted(row, moulds, rule=None):
    """(the fewest lost, how many makings lose just these), piece by piece of each stretch, or None."""
    n = len(row)
    found = [(told_leaves(sheet), gone) for sheet, gone in pieces(moulds)]
    within = {(i, i): (0, 1) for i in range(n + 1)}
    for i, j in sorted(itertools.combinations(range(n + 1), 2), key=lambda stretch: stretch[1] - stretch[0]):
        kinds = [kept_well(row, told, gone, i, j, rule) for told, gone in found]
        ways = [(lost, within[i + x, j - y]) for x, y, lost in filter(None, kinds)]
        within[i, j] = best_of([(lost + inner[0], inner[1]) for lost, inner in ways if inner is not None])
    ahead = [(0, 1)]
    for j in range(1, n + 1):
        pairs = [(ahead[i], within[i, j]) for i in range(j) if ahead[i] is not None and within[i, j] is not None]
        ahead.append(best_of([(one[0] + other[0], one[1] * other[1]) for one, other in pairs]))
    return ahead[n]


def best_of(pairs):
    """(the least first number, the sum of the second numbers beside it), or None of none."""
    least = min([number for number, times in pairs], default=None)
    return None if least is None else (least, sum(times for number, times in pairs if number == least))


class Refused(Exception):
    """A refusal, told by the name of its class."""


class PaperBook:
    """A book that keeps each sheet with the numbers of its leaves, and lays the sheets anew for each question."""

    def __init__(self, moulds):
        self.names = list(moulds)
        self.gatherings = []
        self.given = 0
        self.came = 0
        self.torn = set()

    def standing(self, number):
        for own, sheets in self.gatherings:
            if own == number:
                return sheets
        raise Refused("NoGathering")

    def lying(self, number):
        """(leaf, number of the sheet, number among the sheet's leaves) as they lie."""
        sheets = self.standing(number)
        return [(sheets[sheet][1][leaf], sheet, leaf) for sheet, leaf in nested([sheet for sheet, numbers in sheets])]

    def check_leaf(self, leaf):
        if leaf not in range(self.came):
            raise Refused("NoLeaf")

    def do(self, deed):
        return getattr(self, "do_" + deed[0])(*deed[1:])

    def do_gather(self, *sheets):
        if not sheets:
            raise Refused("NoSheets")
        if not all(mould in self.names and folds in FOLDS and lay in LAYS for mould, folds, lay in sheets):
            raise Refused("BadSheet")
        if self.came + sum(COUNT[folds] for mould, folds, lay in sheets) > 128:
            raise Refused("Full")
        numbers = [[None] * COUNT[folds] for mould, folds, lay in sheets]
        for sheet, leaf in nested(sheets):
            numbers[sheet][leaf] = self.came
            self.came += 1
        self.gatherings.append((self.given, list(zip(sheets, numbers))))
        self.given += 1
        return self.given - 1

    def do_nest(self, inner, outer):
        within, around = self.standing(inner), self.standing(outer)
        if inner == outer:
            raise Refused("SameOne")
        around.extend(within)
        self.gatherings = [pair for pair in self.gatherings if pair[0] != inner]

    def do_sew(self, *order):
        if sorted(order) != sorted(number for number, sheets in self.gatherings):
            raise Refused("BadOrder")
        self.gatherings = [(number, self.standing(number)) for number in order]

    def do_tear(self, leaf):
        self.check_leaf(leaf)
        if leaf in self.torn:
            raise Refused("Torn")
        self.torn.add(leaf)

    def do_mend(self, leaf):
        self.check_leaf(leaf)
        if leaf not in self.torn:
            raise Refused("NotTorn")
        self.torn.remove(leaf)

    def do_shed(self, number):
        there = sorted(leaf for leaf, sheet, own in self.lying(number) if leaf not in self.torn)
        self.torn.update(there)
        return there

    def word(self, number):
        """The word of a gathering in the formula."""
        gone = [str(k) for k, (leaf, sheet, own) in enumerate(self.lying(number), 1) if leaf in self.torn]
        figures = "".join(str(sheet[1]) for sheet, numbers in self.standing(number))
        return "-".join([figures, ".".join(gone)] if gone else [figures])

    def stand(self):
        """All that is told of the book, as told_of asks for it."""
        order = [number for number, sheets in self.gatherings]
        where, mate, look, leaves = {}, {}, {}, []
        for number, sheets in self.gatherings:
            for leaf, sheet, own in self.lying(number):
                where[leaf] = (number, sheet, own)
                other = sheets[sheet][1][len(sheets[sheet][1]) - 1 - own]
                mate[leaf] = "Torn" if leaf in self.torn else None if other in self.torn else other
                look[leaf] = "Torn" if leaf in self.torn else told_leaves(sheets[sheet][0])[own]
                if leaf not in self.torn:
                    leaves.append(leaf)
        return {
            "moulds": self.names, "gatherings": order, "made": self.came, "leaves": leaves, "torn": sorted(self.torn),
            "seen": [look[leaf] for leaf in leaves], "formula": " ".join(self.word(number) for number in order),
            "sheets": {number: [sheet for sheet, numbers in self.standing(number)] for number in order},
            "leaves_of": {number: [leaf for leaf, sheet, own in self.lying(number)] for number in order},
            "where": where, "mate": mate, "look": look,
        }


def told_of(book):
    """All that a book tells; for what it refuses the name of the refusal."""
    told = {name: getattr(book, name)() for name in ("moulds", "gatherings", "made", "leaves", "torn", "seen", "formula")}
    for name in ("sheets", "leaves_of"):
        told[name] = {number: getattr(book, name)(number) for number in book.gatherings()}
    for name in ("where", "mate", "look"):
        told[name] = {leaf: answer(getattr(book, name), leaf) for leaf in range(book.made())}
    return told


def answer(ask, *things):
    """What is told, or the name of the refusal."""
    try:
        return ask(*things)
    except ValueError as refusal:
        return type(refusal).__name__


def some_deed(chance, book, good=0.8):
    """Some deed for a PaperBook, often one that it does not refuse."""
    numbers = [number for number, sheets in book.gatherings]
    sound = chance.random() < good
    word = chance.choice(("gather", "gather", "nest", "sew", "tear", "tear", "tear", "mend", "shed"))
    if sound and (not numbers or word == "mend" and not book.torn):
        word = "gather"
    if word == "gather":
        sheets = [(chance.choice(book.names), chance.choice(FOLDS), chance.choice(LAYS)) for time in range(4)]
        if not sound:
            sheets[0] = chance.choice(BAD_SHEETS + (("none", 1, 1),))
        return (word, *sheets[:chance.choice((1, 1, 1, 2, 2, 3, 4) if sound else (0, 1, 4))])
    if sound:
        leaf = chance.choice(sorted(book.torn) if word == "mend" else range(book.came))
        things = {
            "nest": chance.sample(numbers, 2) if len(numbers) > 1 else numbers * 2,
            "sew": chance.sample(numbers, len(numbers)), "shed": [chance.choice(numbers)],
        }
        return (word, *things.get(word, [leaf]))
    wild = [chance.choice((-1, -2, 0, 1, 2, 3, book.came, book.came - 1, book.given, 99, FAR, -FAR)) for time in range(4)]
    return (word, *wild[:{"nest": 2, "sew": 4}.get(word, 1)])


NUMBER = "(?:0|[1-9][0-9]*)"
HEAD_ROW = re.compile("moulds((?: [a-z]{1,8}){1,3})")
DEED_ROW = re.compile(
    f"gather((?: [a-z]{{1,8}} {NUMBER} {NUMBER})+)|(nest) {NUMBER} {NUMBER}|sew(?: {NUMBER})*|(tear|mend|shed) {NUMBER}"
)


def first_wrong(text):
    """The number of the first wrong row of a journal's text, or None where a journal has it."""
    rows = text.split("\n")
    head = HEAD_ROW.fullmatch(rows[0])
    names = head[1].split() if head else []
    if not head or len(set(names)) < len(names):
        return 0
    book = PaperBook(names)
    for number, row in enumerate(rows[1:], 1):
        if not DEED_ROW.fullmatch(row):
            return number
        word, *words = row.split(" ")
        if word == "gather":
            things = [(words[k], int(words[k + 1]), int(words[k + 2])) for k in range(0, len(words), 3)]
        else:
            things = [int(figures) for figures in words]
        try:
            book.do((word, *things))
        except Refused:
            return number
    return None
