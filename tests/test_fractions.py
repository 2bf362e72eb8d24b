"""Point 6: fractions, reckoned beside those of Python's own library."""

import math
import unittest
from fractions import Fraction

from scopestore.errors import NoFraction
from scopestore.fractions import fraction_of, is_less, minus, over, plus, times

LONG = 314159265358979323846264338327
LONGER = 999999999999999999999999999999
EVEN = 271828182845904523536028747136

SOME = (
    (0, 1), (1, 1), (-1, 1), (7, 1), (-12, 1), (1, 2), (-1, 2), (1, 3), (2, 3), (-2, 3), (3, 4), (-3, 4),
    (5, 6), (-5, 6), (7, 12), (999, 98), (-999, 98), (999, 97),
    (LONG, 1), (-LONG, 1), (1, LONG), (-1, LONGER), (LONG, LONGER - 1), (-LONG, LONGER - 1), (LONGER, EVEN - 1),
)
FRACTIONS = tuple((Fraction(*pair).numerator, Fraction(*pair).denominator) for pair in SOME)


class FractionTest(unittest.TestCase):
    def assert_fraction(self, told, worth):
        """Look at the shape as well as at the worth: (2, 4) and (1, True) are no fractions."""
        self.assertIs(type(told), tuple)
        self.assertEqual([type(part) for part in told], [int, int])
        top, bottom = told
        self.assertGreaterEqual(bottom, 1)
        self.assertEqual(math.gcd(top, bottom), 1)
        self.assertEqual(Fraction(top, bottom), worth)


class FractionOf(FractionTest):
    def test_tops_and_bottoms_of_either_sign(self):
        for top in range(-24, 25):
            for bottom in range(-24, 25):
                if bottom != 0:
                    self.assert_fraction(fraction_of(top, bottom), Fraction(top, bottom))

    def test_told_as_written(self):
        self.assertEqual(fraction_of(6, 8), (3, 4))
        self.assertEqual(fraction_of(-6, 8), (-3, 4))
        self.assertEqual(fraction_of(6, -8), (-3, 4))
        self.assertEqual(fraction_of(-6, -8), (3, 4))
        self.assertEqual(fraction_of(3, 4), (3, 4))

    def test_nought(self):
        for bottom in (1, -1, 5, -5, LONG, -LONG):
            self.assertEqual(fraction_of(0, bottom), (0, 1))
        self.assertEqual(fraction_of(0), (0, 1))

    def test_bottom_left_out(self):
        for top in (0, 1, -1, 12, -12, LONG, -LONG):
            self.assertEqual(fraction_of(top), (top, 1))

    def test_thirty_figures(self):
        self.assertEqual([len(str(number)) for number in (LONG, LONGER, EVEN)], [30, 30, 30])
        numbers = (LONG, LONGER, EVEN, -LONG, -LONGER, -EVEN, 6, -6)
        for top in numbers:
            for bottom in numbers:
                self.assert_fraction(fraction_of(top, bottom), Fraction(top, bottom))
        self.assertEqual(fraction_of(LONG, LONG), (1, 1))
        self.assertEqual(fraction_of(LONG, -LONG), (-1, 1))

    def test_a_bottom_of_0_is_refused(self):
        for top in (0, 1, -1, LONG, -LONG):
            with self.assertRaises(NoFraction):
                fraction_of(top, 0)


class Reckoning(FractionTest):
    def test_plus(self):
        for a in FRACTIONS:
            for b in FRACTIONS:
                self.assert_fraction(plus(a, b), Fraction(*a) + Fraction(*b))

    def test_minus(self):
        for a in FRACTIONS:
            for b in FRACTIONS:
                self.assert_fraction(minus(a, b), Fraction(*a) - Fraction(*b))

    def test_times(self):
        for a in FRACTIONS:
            for b in FRACTIONS:
                self.assert_fraction(times(a, b), Fraction(*a) * Fraction(*b))

    def test_over(self):
        for a in FRACTIONS:
            for b in FRACTIONS:
                if b != (0, 1):
                    self.assert_fraction(over(a, b), Fraction(*a) / Fraction(*b))

    def test_over_nought_is_refused(self):
        for a in FRACTIONS + ((1, 2**300), (-(3**200), 2**300)):
            with self.assertRaises(NoFraction):
                over(a, (0, 1))

    def test_is_less(self):
        for a in FRACTIONS:
            for b in FRACTIONS:
                self.assertIs(is_less(a, b), Fraction(*a) < Fraction(*b))

    def test_told_as_written(self):
        self.assertEqual(plus((1, 6), (1, 3)), (1, 2))
        self.assertEqual(plus((1, 2), (-1, 2)), (0, 1))
        self.assertEqual(minus((1, 6), (2, 3)), (-1, 2))
        self.assertEqual(minus((5, 6), (5, 6)), (0, 1))
        self.assertEqual(times((-2, 3), (3, 4)), (-1, 2))
        self.assertEqual(times((-2, 3), (0, 1)), (0, 1))
        self.assertEqual(over((1, 2), (-3, 4)), (-2, 3))
        self.assertEqual(over((0, 1), (-3, 4)), (0, 1))

    def test_is_less_told_as_written(self):
        self.assertIs(is_less((1, 3), (1, 2)), True)
        self.assertIs(is_less((1, 2), (1, 3)), False)
        self.assertIs(is_less((-1, 2), (-1, 3)), True)
        self.assertIs(is_less((1, 2), (1, 2)), False)
        self.assertIs(is_less((0, 1), (0, 1)), False)

    def test_parts_that_no_rounded_number_tells_apart(self):
        near = (LONGER, LONGER - 1)
        nearer = (LONGER + 1, LONGER)
        self.assertIs(is_less(nearer, near), True)
        self.assertIs(is_less(near, nearer), False)
        self.assertEqual(minus(near, nearer), (1, LONGER * (LONGER - 1)))

    def test_what_was_told_may_be_handed_in_again(self):
        told = (LONG, LONGER - 1)
        worth = Fraction(*told)
        for number in (7, 10, 12):
            told = plus(times(told, told), (number, 11))
            worth = worth * worth + Fraction(number, 11)
            self.assert_fraction(told, worth)

    def test_long_ones_that_have_divisors_in_common(self):
        long = [(0, 1), (1, 1), (-1, 1), (5, 6), (-7, 30), (LONG, EVEN), (-LONGER, 6**80)]
        for bottom in (6**100, 10**90, 15**70, 2**300, 6**100 * 7, LONG**5):
            long += [(1, bottom), (-1, bottom), (bottom, 77), (bottom - 1, bottom), (35 - bottom, bottom)]
        long = [(Fraction(*pair).numerator, Fraction(*pair).denominator) for pair in long]
        for a in long:
            for b in long:
                self.assert_fraction(plus(a, b), Fraction(*a) + Fraction(*b))
                self.assert_fraction(minus(a, b), Fraction(*a) - Fraction(*b))
                self.assert_fraction(times(a, b), Fraction(*a) * Fraction(*b))
                self.assertIs(is_less(a, b), Fraction(*a) < Fraction(*b))
                if b != (0, 1):
                    self.assert_fraction(over(a, b), Fraction(*a) / Fraction(*b))


if __name__ == "__main__":
    unittest.main()
