"""Points 7 and 8: sums, and their worth at a point."""

import math
import unittest
from fractions import Fraction

from scopestore.fractions import fraction_of
from scopestore.sums import sum_of, sum_plus, sum_times, worth_at

NOUGHT = (0, 1)
LONG = 314159265358979323846264338327
LONGER = 999999999999999999999999999999
DEEP = fraction_of(LONG, LONGER - 1)

SUMS = (
    {},
    {"x": (1, 1)},
    {"x": (-1, 1)},
    {"x": (3, 4), "y": (-2, 3)},
    {"x": (-3, 4), "y": (2, 3)},
    {"y": (1, 6), "x": (-1, 4), "longer": (999, 98)},
    {"a": (1, 2), "aa": (1, 3), "abcdef": (-5, 7), "z": (12, 1)},
)
NUMBERS = (NOUGHT, (1, 1), (-1, 1), (2, 1), (-3, 4), (4, 3), DEEP)


class SumTest(unittest.TestCase):
    def assert_sum(self, told, worths):
        """Look at the told dict's shape, and that it is the sum of just these worths."""
        self.assertIs(type(told), dict)
        for number in told.values():
            self.assertIs(type(number), tuple)
            self.assertEqual([type(part) for part in number], [int, int])
            self.assertNotEqual(number[0], 0)
            self.assertGreaterEqual(number[1], 1)
            self.assertEqual(math.gcd(*number), 1)
        told_worths = {unknown: Fraction(*told[unknown]) for unknown in told}
        self.assertEqual(told_worths, {unknown: worths[unknown] for unknown in worths if worths[unknown] != 0})


class SumOf(SumTest):
    def assert_both(self, pairs, told):
        self.assertEqual(sum_of(tuple(pairs)), told)
        self.assertEqual(sum_of(list(pairs)), told)
        self.assertIs(type(sum_of(tuple(pairs))), dict)

    def test_none_at_all(self):
        self.assert_both([], {})

    def test_each_unknown_once(self):
        self.assert_both([("x", (1, 2)), ("y", (-3, 1))], {"x": (1, 2), "y": (-3, 1)})

    def test_an_unknown_more_than_once(self):
        self.assert_both([("x", (1, 2)), ("y", (1, 1)), ("x", (1, 3)), ("x", (1, 6))], {"x": (1, 1), "y": (1, 1)})

    def test_opposite_ones_come_to_nought(self):
        self.assert_both([("x", (1, 2)), ("x", (-1, 2))], {})
        self.assert_both([("x", (1, 2)), ("y", (1, 1)), ("x", (-1, 2))], {"y": (1, 1)})
        self.assert_both([("x", (1, 2)), ("x", (-1, 3)), ("x", (-1, 6))], {})

    def test_what_came_to_nought_is_added_to_again(self):
        self.assert_both([("x", (1, 2)), ("x", (-1, 2)), ("x", (5, 1))], {"x": (5, 1)})

    def test_noughts(self):
        self.assert_both([("x", NOUGHT)], {})
        self.assert_both([("x", NOUGHT), ("x", NOUGHT), ("y", NOUGHT)], {})
        self.assert_both([("x", NOUGHT), ("x", (2, 3)), ("y", NOUGHT)], {"x": (2, 3)})
        self.assert_both([("x", (2, 3)), ("x", NOUGHT)], {"x": (2, 3)})

    def test_thirty_figures(self):
        opposite = (-DEEP[0], DEEP[1])
        self.assert_both([("x", DEEP), ("y", DEEP), ("x", opposite)], {"y": DEEP})

    def test_unknowns_that_begin_alike_are_unlike(self):
        pairs = [("a", (1, 1)), ("aa", (1, 1)), ("aaaaaa", (1, 1))]
        self.assert_both(pairs, dict(pairs))

    def test_the_order_of_the_pairs_is_free(self):
        pairs = [("x", (1, 2)), ("y", (-1, 3)), ("x", (1, 5)), ("y", (1, 3))]
        self.assert_both(pairs, {"x": (7, 10)})
        self.assert_both(pairs[::-1], {"x": (7, 10)})


class SumPlus(SumTest):
    def test_all_pairs_of_sums(self):
        for one in SUMS:
            for other in SUMS:
                worths = {unknown: Fraction(*one[unknown]) for unknown in one}
                for unknown in other:
                    worths[unknown] = worths.get(unknown, 0) + Fraction(*other[unknown])
                self.assert_sum(sum_plus(one, other), worths)

    def test_empty(self):
        self.assertEqual(sum_plus({}, {}), {})
        self.assertEqual(sum_plus({"x": (1, 2)}, {}), {"x": (1, 2)})
        self.assertEqual(sum_plus({}, {"x": (1, 2)}), {"x": (1, 2)})

    def test_alike(self):
        one = {"x": (3, 4), "y": (-2, 3)}
        self.assertEqual(sum_plus(one, {"y": (-2, 3), "x": (3, 4)}), {"x": (3, 2), "y": (-4, 3)})
        self.assertEqual(sum_plus(one, one), {"x": (3, 2), "y": (-4, 3)})

    def test_opposite(self):
        self.assertEqual(sum_plus({"x": (3, 4), "y": (-2, 3)}, {"y": (2, 3), "x": (-3, 4)}), {})
        self.assertEqual(sum_plus({"x": (3, 4), "y": (-2, 3)}, {"x": (-3, 4)}), {"y": (-2, 3)})

    def test_without_a_common_unknown(self):
        self.assertEqual(sum_plus({"x": (3, 4)}, {"y": (-3, 4)}), {"x": (3, 4), "y": (-3, 4)})


class SumTimes(SumTest):
    def test_all_sums_and_numbers(self):
        for one in SUMS:
            for number in NUMBERS:
                worths = {unknown: Fraction(*one[unknown]) * Fraction(*number) for unknown in one}
                self.assert_sum(sum_times(one, number), worths)

    def test_by_nought(self):
        for one in SUMS:
            self.assertEqual(sum_times(one, NOUGHT), {})

    def test_by_one(self):
        for one in SUMS:
            self.assertEqual(sum_times(one, (1, 1)), one)

    def test_below_0(self):
        self.assertEqual(sum_times({"x": (3, 4), "y": (-2, 3)}, (-4, 3)), {"x": (-1, 1), "y": (8, 9)})

    def test_of_nothing(self):
        for number in NUMBERS:
            self.assertEqual(sum_times({}, number), {})


class WorthAt(SumTest):
    def assert_worth(self, told, worth):
        self.assertIs(type(told), tuple)
        self.assertEqual([type(part) for part in told], [int, int])
        self.assertGreaterEqual(told[1], 1)
        self.assertEqual(math.gcd(*told), 1)
        self.assertEqual(Fraction(*told), worth)

    def test_of_nothing(self):
        for point in ({}, {"x": NOUGHT}, {"x": (5, 1), "y": DEEP}):
            self.assertEqual(worth_at({}, point), NOUGHT)

    def test_at_the_empty_point(self):
        for one in SUMS:
            self.assertEqual(worth_at(one, {}), NOUGHT)

    def test_unknowns_that_are_not_in_the_point(self):
        self.assertEqual(worth_at({"x": (1, 2), "y": (3, 1)}, {"x": (5, 1)}), (5, 2))
        self.assertEqual(worth_at({"x": (1, 2)}, {"y": (5, 1)}), NOUGHT)

    def test_unknowns_of_the_point_that_are_not_in_the_sum(self):
        self.assertEqual(worth_at({"x": (1, 2)}, {"x": (5, 1), "y": (7, 1), "xx": (9, 1)}), (5, 2))

    def test_noughts_in_the_point(self):
        self.assertEqual(worth_at({"x": (1, 2), "y": (3, 1)}, {"x": NOUGHT, "y": (1, 3)}), (1, 1))
        self.assertEqual(worth_at({"x": (1, 2)}, {"x": NOUGHT}), NOUGHT)

    def test_parts_that_come_to_nought(self):
        self.assertEqual(worth_at({"x": (1, 2), "y": (-1, 3)}, {"x": (2, 3), "y": (1, 1)}), NOUGHT)

    def test_below_0(self):
        self.assertEqual(worth_at({"x": (1, 2), "y": (3, 1)}, {"x": (-5, 1), "y": (1, 3)}), (-3, 2))

    def test_all_sums_at_points_of_many_figures(self):
        deep = {"x": DEEP, "y": (-DEEP[1], DEEP[0]), "longer": (1, LONG), "a": (LONGER, 1), "aa": (-LONG, 1)}
        for one in SUMS:
            for point in (deep, {"z": DEEP, "abcdef": DEEP}, {"x": (1, 3), "y": (-3, 8)}):
                worths = [Fraction(*one[key]) * Fraction(*point.get(key, NOUGHT)) for key in one]
                self.assert_worth(worth_at(one, point), sum(worths, Fraction(0)))


if __name__ == "__main__":
    unittest.main()
