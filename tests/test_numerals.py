"""Numbers: is_number, fraction, plus, less, times, over."""

import unittest
from fractions import Fraction

from reckon import NO_NUMBERS, is_plain_number, number
from swaprest.errors import NoNumber, NoRow, SwapError
from swaprest.numerals import fraction, is_number, less, over, plus, times

TWENTY = 73000000000000000019
THOUSAND = 10 ** 999 + 7

SMALL = [Fraction(top, bottom) for top in range(-7, 8) for bottom in (1, 2, 3, 4, 6, 9)]

LARGE = [
    Fraction(0), Fraction(1), Fraction(-1), Fraction(2, 3),
    Fraction(TWENTY), Fraction(-TWENTY, 3), Fraction(TWENTY - 1, TWENTY), Fraction(6, TWENTY + 1),
    Fraction(THOUSAND), Fraction(-1, THOUSAND), Fraction(THOUSAND - 4, THOUSAND), Fraction(-THOUSAND, TWENTY),
    Fraction(10 ** 999, 3 ** 2000), Fraction(6 ** 1200, 7 ** 1100),
]

WHOLES = [
    0, 1, -1, 2, -2, 3, 4, -6, 10, 12, -15, 60, 97, TWENTY, -TWENTY, 2 * TWENTY, THOUSAND, -THOUSAND, 6 ** 1200,
    -(10 ** 999),
]

REAL_NUMBERS = (
    (0, 1), (1, 1), (-1, 1), (7, 1), (-7, 2), (1, 2), (-1, 2), (2, 3), (9, 4), (1, 60), (TWENTY, 1), (-TWENTY, 2),
    (1, TWENTY), (THOUSAND, 1), (-THOUSAND, 2), (1, THOUSAND), (THOUSAND - 1, THOUSAND), (2 ** 3300, 3 ** 2000),
)

KINDS = ((plus, Fraction.__add__), (less, Fraction.__sub__), (times, Fraction.__mul__), (over, Fraction.__truediv__))


class Numbers(unittest.TestCase):
    def check(self, told, wanted):
        self.assertTrue(is_plain_number(told), "no number in lowest parts")
        self.assertTrue(told == number(wanted), "another worth")


class TwoNumbers(Numbers):
    def check_all(self, worths):
        for told_by, wanted_by in KINDS:
            for one in worths:
                for other in worths:
                    if told_by is over and other == 0:
                        continue
                    self.check(told_by(number(one), number(other)), wanted_by(one, other))

    def test_small_ones_of_all_signs(self):
        self.check_all(SMALL)

    def test_large_ones(self):
        self.check_all(LARGE)

    def test_written_out(self):
        self.assertEqual(plus((1, 2), (1, 3)), (5, 6))
        self.assertEqual(plus((1, 6), (1, 3)), (1, 2))
        self.assertEqual(plus((1, 2), (-1, 2)), (0, 1))
        self.assertEqual(less((1, 2), (1, 3)), (1, 6))
        self.assertEqual(less((1, 3), (1, 2)), (-1, 6))
        self.assertEqual(less((0, 1), (3, 4)), (-3, 4))
        self.assertEqual(less((3, 4), (3, 4)), (0, 1))
        self.assertEqual(times((2, 3), (3, 4)), (1, 2))
        self.assertEqual(times((-2, 3), (-3, 2)), (1, 1))
        self.assertEqual(times((0, 1), (-3, 2)), (0, 1))
        self.assertEqual(over((1, 2), (3, 4)), (2, 3))
        self.assertEqual(over((1, 2), (-3, 4)), (-2, 3))
        self.assertEqual(over((-1, 2), (-1, 2)), (1, 1))
        self.assertEqual(over((0, 1), (-3, 4)), (0, 1))

    def test_what_was_told_goes_in_again(self):
        told, wanted = (THOUSAND, 3), Fraction(THOUSAND, 3)
        for _ in range(4):
            told, wanted = times(told, told), wanted * wanted
            self.check(told, wanted)
        self.assertIs(is_number(told), True)
        self.check(plus(told, over((1, 1), told)), wanted + 1 / wanted)
        self.assertEqual(less(told, told), (0, 1))
        self.assertEqual(over(told, told), (1, 1))

    def test_asked_again_the_same_is_told(self):
        for told_by, _ in KINDS:
            self.assertEqual(told_by((5, 6), (-7, 4)), told_by((5, 6), (-7, 4)))

    def test_nought_divides_nothing(self):
        for one in SMALL + LARGE:
            with self.assertRaises(SwapError) as caught:
                over(number(one), (0, 1))
            self.assertIs(caught.exception.__class__, NoNumber)

    def test_nought_is_no_wrong_number_else(self):
        for one in SMALL + LARGE:
            self.check(plus(number(one), (0, 1)), one)
            self.check(less(number(one), (0, 1)), one)
            self.check(times(number(one), (0, 1)), Fraction(0))


class FractionOfTwo(Numbers):
    def test_all_signs_and_sizes(self):
        for top in WHOLES:
            for bottom in WHOLES:
                if bottom != 0:
                    self.check(fraction(top, bottom), Fraction(top, bottom))

    def test_written_out(self):
        self.assertEqual(fraction(6, 4), (3, 2))
        self.assertEqual(fraction(6, -4), (-3, 2))
        self.assertEqual(fraction(-6, 4), (-3, 2))
        self.assertEqual(fraction(-6, -4), (3, 2))
        self.assertEqual(fraction(0, 5), (0, 1))
        self.assertEqual(fraction(0, -5), (0, 1))
        self.assertEqual(fraction(5, 1), (5, 1))
        self.assertEqual(fraction(5, -1), (-5, 1))
        self.assertEqual(fraction(TWENTY * 6, -TWENTY * 4), (-3, 2))

    def test_bottom_nought(self):
        for top in WHOLES:
            with self.assertRaises(SwapError) as caught:
                fraction(top, 0)
            self.assertIs(caught.exception.__class__, NoNumber)
            self.assertFalse(isinstance(caught.exception, NoRow))


class IsNumber(unittest.TestCase):
    def test_numbers(self):
        for one in REAL_NUMBERS:
            self.assertIs(is_number(one), True)

    def test_what_is_told_is_one(self):
        for one in SMALL + LARGE:
            self.assertIs(is_number(fraction(one.numerator * -6, one.denominator * -6)), True)

    def test_what_is_none(self):
        for one in NO_NUMBERS:
            with self.subTest(repr(one)):
                self.assertIs(is_number(one), False)

    def test_large_ones_that_are_none(self):
        for one in (
            THOUSAND, "9" * 800, (2 * THOUSAND, 4), (THOUSAND, THOUSAND), (0, THOUSAND), (1, -THOUSAND),
            (THOUSAND, 0), (THOUSAND, True), (THOUSAND * TWENTY, 2 * TWENTY), [THOUSAND, 2],
        ):
            self.assertIs(is_number(one), False)

    def test_all_small_pairs(self):
        for top in range(-13, 14):
            for bottom in range(-4, 14):
                wanted = bottom > 0 and number(Fraction(top, bottom)) == (top, bottom)
                self.assertIs(is_number((top, bottom)), wanted, (top, bottom))

    def test_deep_ones(self):
        deep = (1, 1)
        for _ in range(17):
            deep = (deep, 1)
            self.assertIs(is_number(deep), False)
        deep = [1, 1]
        for _ in range(17):
            deep = [deep, 1]
            self.assertIs(is_number(deep), False)
            self.assertIs(is_number((deep, 1)), False)

    def test_a_list_is_as_it_was(self):
        asked = [(1, 2), [3]]
        is_number(asked)
        is_number((asked, 1))
        self.assertEqual(asked, [(1, 2), [3]])


if __name__ == "__main__":
    unittest.main()
