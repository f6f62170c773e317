import unittest

from leafmate.numbers import is_number
from tests.paper import FAR


class IsNumber(unittest.TestCase):
    def test_whole_numbers_of_any_size(self):
        for number in (0, 1, -1, 3, FAR, -FAR):
            self.assertIs(is_number(number), True)

    def test_no_numbers(self):
        for thing in (True, False, None, "1", "", (1,), [1]):
            self.assertIs(is_number(thing), False)
