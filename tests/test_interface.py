import importlib
import inspect
import unittest

FUNCTIONS = {
    "folds": ["grid(folds)", "count(folds)", "pile(folds)", "leaf_at(folds, row, column)", "mate(folds, leaf)"],
    "marks": [
        "part(folds, lay, leaf)", "side(folds, lay, leaf)", "spread(folds, lay)", "bearers(folds, lay)",
        "lays_by(folds, told)",
    ],
    "sheets": [
        "good_name(name)", "good_sheet(sheet)", "leaves(sheet)", "all_sheets(moulds)", "good_leaf(seen)",
        "fits(seen, leaf)",
    ],
    "gatherings": ["laid(sheets)", "mates(sheets)", "shown(sheets)"],
    "openings": ["breaks(row)", "runs(row)"],
    "formula": ["written(gatherings)", "read(text)"],
    "makings": [
        "is_making(moulds, making)", "lets(row, moulds, making)", "lost(making)", "row_of(making)", "steps(making)",
    ],
    "fewest": ["fewest(row, moulds, rule=None)", "making(row, moulds, rule=None)"],
    "papers": ["paper(row, moulds, rule, count)", "bars(row, moulds, rule, paper, count)"],
    "counts": ["many(row, moulds, rule=None)", "told(row, moulds, one, other)", "why(row, moulds, one, other)"],
    "journal": ["read_journal(text)"],
}
CLASSES = {
    ("book", "Book(moulds)"): [
        "gather(sheets)", "nest(inner, outer)", "sew(order)", "tear(leaf)", "mend(leaf)", "shed(gathering)", "moulds()",
        "gatherings()", "sheets(gathering)", "leaves_of(gathering)", "made()", "leaves()", "torn()", "where(leaf)",
        "mate(leaf)", "look(leaf)", "seen()", "formula()", "twin()",
    ],
    ("reader", "Reader(moulds)"): [
        "see(at, seen)", "right(at, seen)", "strike(at)", "seen()", "fewest()", "making()", "many()", "told(one, other)",
        "why(one, other)", "paper(count)", "twin()",
    ],
    ("journal", "Journal(moulds)"): ["do(deed)", "back()", "again()", "deeds()", "book()", "text()", "twin()"],
}


class Interface(unittest.TestCase):
    def test_functions(self):
        for name, listed in FUNCTIONS.items():
            module = importlib.import_module("leafmate." + name)
            for told in listed:
                own = told.partition("(")[0]
                self.assertEqual(own + str(inspect.signature(getattr(module, own))), told)

    def test_classes_define_their_methods_themselves(self):
        for (name, made), listed in CLASSES.items():
            module = importlib.import_module("leafmate." + name)
            own = made.partition("(")[0]
            kind = getattr(module, own)
            self.assertEqual(own + str(inspect.signature(kind)), made)
            for told in listed:
                method = told.partition("(")[0]
                self.assertIn(method, vars(kind))
                self.assertEqual(method + str(inspect.signature(getattr(kind(["ox"]), method))), told)
