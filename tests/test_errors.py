import unittest

from leafmate import errors

REFUSALS = (
    "BadMould", "BadFolds", "BadLay", "NoLeaf", "NoCell", "BadSheet", "NoSheets", "BadLeaf",
    "BadRow", "BadFormula", "BadRule", "NoMaking", "NoPlace", "SameOne", "Full", "NoGathering",
    "BadOrder", "Torn", "NotTorn", "BadDeed", "Nothing", "BadText",
)


class Errors(unittest.TestCase):
    def test_leaf_error_is_a_value_error(self):
        self.assertEqual(errors.LeafError.__bases__, (ValueError,))

    def test_each_refusal_stands_straight_under_leaf_error(self):
        self.assertEqual(len(set(REFUSALS)), 22)
        for name in REFUSALS:
            with self.subTest(name):
                refusal = getattr(errors, name)
                self.assertEqual(refusal.__bases__, (errors.LeafError,))
                self.assertEqual(refusal.__name__, name)

    def test_no_two_names_are_one_class(self):
        self.assertEqual(len({getattr(errors, name) for name in REFUSALS}), 22)

    def test_bad_text_has_its_row(self):
        for row in (0, 7):
            refusal = errors.BadText(row)
            self.assertEqual(refusal.row, row)
            with self.assertRaises(errors.LeafError):
                raise refusal
