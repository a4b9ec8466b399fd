import unittest
from fractions import Fraction

from tests.samples import FORTY, told
from wishlots.errors import NoFraction
from wishlots.fractions import before, fraction, is_fraction, minus, plus, times

GREAT = (FORTY, -FORTY, 10 ** 39, 6 * (10 ** 39 + 7), 2 ** 130, -3 ** 80)
NUMBERS = tuple(range(-13, 14)) + GREAT


def worths():
    found = {Fraction(top, bottom) for top in range(-5, 6) for bottom in range(1, 7)}
    found |= {Fraction(top, bottom) for top in GREAT for bottom in GREAT}
    return sorted(found)


class Cases(unittest.TestCase):
    def assert_fraction(self, value, worth):
        self.assertIs(type(value), tuple)
        self.assertEqual([type(number) for number in value], [int, int])
        self.assertEqual(value, told(worth))


class Making(Cases):
    def test_by_hand(self):
        self.assertEqual(fraction(2, 4), (1, 2))
        self.assertEqual(fraction(-2, 4), (-1, 2))
        self.assertEqual(fraction(2, -4), (-1, 2))
        self.assertEqual(fraction(-2, -4), (1, 2))
        self.assertEqual(fraction(4, 2), (2, 1))
        self.assertEqual(fraction(7, 3), (7, 3))
        self.assertEqual(fraction(-7, 7), (-1, 1))

    def test_a_top_of_nothing(self):
        for bottom in (1, -1, 5, -5, FORTY, -FORTY):
            with self.subTest(bottom):
                self.assertEqual(fraction(0, bottom), (0, 1))

    def test_small_and_great(self):
        for top in NUMBERS:
            for bottom in NUMBERS:
                if bottom != 0:
                    self.assert_fraction(fraction(top, bottom), Fraction(top, bottom))

    def test_by_name(self):
        self.assertEqual(fraction(top=3, bottom=6), (1, 2))

    def test_a_bottom_of_nothing_is_refused(self):
        for top in NUMBERS:
            with self.subTest(top), self.assertRaises(NoFraction):
                fraction(top, 0)

    def test_what_is_no_whole_number_is_refused(self):
        for top, bottom in ((True, 2), (1, True), (False, 1), (1, False), ("1", 2), (1, None), (1.0, 2), (1, 2.0)):
            with self.subTest(top=top, bottom=bottom), self.assertRaises(NoFraction):
                fraction(top, bottom)

    def test_what_is_a_fraction(self):
        for value in ((0, 1), (1, 1), (-1, 2), (7, 3), (FORTY, FORTY + 1)):
            self.assertIs(is_fraction(value), True, value)
        for value in ((2, 4), (0, 2), (1, 0), (0, 0), (1, -2), (-1, -2), (1,), (1, 2, 3), [1, 2], (True, 1), (1, True),
                      ("1", 2), 1, None):
            self.assertIs(is_fraction(value), False, value)


class Reckoning(Cases):
    def test_by_hand(self):
        self.assertEqual(plus((1, 2), (1, 3)), (5, 6))
        self.assertEqual(plus((1, 6), (1, 3)), (1, 2))
        self.assertEqual(plus((1, 2), (-1, 2)), (0, 1))
        self.assertEqual(minus((1, 2), (1, 3)), (1, 6))
        self.assertEqual(minus((1, 3), (1, 2)), (-1, 6))
        self.assertEqual(minus((5, 6), (5, 6)), (0, 1))
        self.assertEqual(times((2, 3), (3, 4)), (1, 2))
        self.assertEqual(times((-2, 3), (3, 2)), (-1, 1))
        self.assertEqual(times((-2, 3), (0, 1)), (0, 1))

    def test_all_pairs(self):
        for one in worths():
            for two in worths():
                self.assert_fraction(plus(told(one), told(two)), one + two)
                self.assert_fraction(minus(told(one), told(two)), one - two)
                self.assert_fraction(times(told(one), told(two)), one * two)
                self.assertIs(before(told(one), told(two)), one < two)

    def test_before(self):
        self.assertIs(before((1, 3), (1, 2)), True)
        self.assertIs(before((1, 2), (1, 3)), False)
        self.assertIs(before((1, 2), (1, 2)), False)
        self.assertIs(before((-1, 2), (-1, 3)), True)
        self.assertIs(before((-1, 3), (-1, 2)), False)
        self.assertIs(before((-1, 2), (0, 1)), True)
        self.assertIs(before((FORTY - 1, FORTY), (1, 1)), True)

    def test_by_name(self):
        self.assertEqual(plus(one=(1, 2), two=(1, 4)), (3, 4))
        self.assertEqual(minus(one=(1, 2), two=(1, 4)), (1, 4))
        self.assertEqual(times(one=(1, 2), two=(1, 4)), (1, 8))
        self.assertIs(before(one=(1, 4), two=(1, 2)), True)

    def test_what_was_told_may_be_handed_in_again(self):
        ours = (10 ** 39 + 1, 3 ** 82)
        worth = Fraction(*ours)
        for turn in range(9):
            ours = times(ours, ours)
            worth = worth * worth
            self.assert_fraction(ours, worth)
            self.assert_fraction(plus(ours, ours), worth + worth)
            self.assertEqual(minus(ours, ours), (0, 1))
            self.assert_fraction(fraction(ours[0] * 6, ours[1] * -6), -worth)
            self.assertIs(before(ours, plus(ours, (1, FORTY))), True)
        # Python writes no number of so many figures as a text.
        self.assertGreater(ours[0].bit_length(), 16000)
        with self.assertRaises(NoFraction):
            fraction(ours[0], 0)
