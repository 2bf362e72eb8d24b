"""Points 25 to 27: rows put otherwise, beside what is reckoned in Python's own fractions."""

import itertools
import math
import unittest
from fractions import Fraction

from looking import LONG, LONGER, SORTS, Draw, drawn_rows, drawn_sum, kept, pair_of, row_fits, worth
from scopestore.errors import NoNames, NoNumber
from scopestore.otherwise import plain_row, row_put, row_renamed, row_times, same_row

NOUGHT = (0, 1)
ONE = (1, 1)
TWO = (2, 1)
MINUS = (-1, 1)
X = {"x": ONE}
ROW = ({"x": (3, 4), "y": (-2, 1)}, "most", (5, 6))
TURNED = {"is": "is", "most": "least", "least": "most", "below": "above", "above": "below"}
NUMBERS = (
    ONE, MINUS, TWO, (-3, 4), (1, 7), (LONG, 1), (-LONG, 1), (1, LONG), (-1, LONGER), pair_of(Fraction(LONG, LONGER)),
    pair_of(Fraction(-LONGER, LONG)),
)
POINTS = ({}, {"x": ONE}, {"x": (-2, 3), "y": (5, 7)}, {"w": (9, 1), "x": (1, 2), "y": MINUS, "z": (-8, 3)})


def so_often(row, number):
    """Tell a row times a number of Python's own that isn't nought."""
    one, sort, bound = row
    told = {unknown: pair_of(Fraction(*one[unknown]) * number) for unknown in one}
    return (told, TURNED[sort] if number < 0 else sort, pair_of(Fraction(*bound) * number))


def plain_by_hand(row):
    """Tell the plain row by another way: all fractions brought to one bottom, and what divides them all taken out."""
    one, sort, bound = row
    if not one:
        return ({}, "is", NOUGHT if kept(row, {}) else ONE)
    numbers = [Fraction(*number) for number in one.values()] + [Fraction(*bound)]
    bottom = math.lcm(*(number.denominator for number in numbers))
    divisor = math.gcd(*(int(number * bottom) for number in numbers))
    sign = 1 if one[sorted(one)[0]][0] > 0 else -1
    return so_often(row, Fraction(sign * bottom, divisor))


class RowTest(unittest.TestCase):
    def drawn(self, seed, often=20):
        """Tell drawn rows of each sort."""
        draw = Draw(seed)
        for unknowns in ("", "x", "xy", "wxyz", ("b", "aa", "a", "zz")):
            for top, bottom in ((2, 1), (9, 9), (999, 99)):
                for _ in range(often):
                    yield drawn_rows(draw, 1, unknowns, SORTS, top, bottom)[0][1]


class RowTimes(RowTest):
    def test_told_as_written(self):
        self.assertEqual(row_times(ROW, TWO), ({"x": (3, 2), "y": (-4, 1)}, "most", (5, 3)))
        self.assertEqual(row_times(ROW, (-2, 3)), ({"x": (-1, 2), "y": (4, 3)}, "least", (-5, 9)))
        self.assertEqual(row_times(({}, "below", NOUGHT), MINUS), ({}, "above", NOUGHT))

    def test_each_sort_by_each_number(self):
        for sort in SORTS:
            for number in NUMBERS:
                for one in ({}, X, ROW[0]):
                    for bound in (NOUGHT, ONE, (-5, 6)):
                        told = row_times((one, sort, bound), number)
                        self.assertTrue(row_fits(told))
                        self.assertEqual(told, so_often((one, sort, bound), Fraction(*number)))
                        self.assertEqual(told[1] == sort, number[0] > 0 or sort == "is")

    def test_the_same_points_keep_it(self):
        draw = Draw(70)
        for row in self.drawn(71, 4):
            for number in NUMBERS:
                told = row_times(row, number)
                for point in POINTS + ({unknown: draw.fraction(3, 2) for unknown in "wxyz"},):
                    self.assertIs(kept(told, point), kept(row, point))

    def test_nought(self):
        for sort in SORTS:
            for one in ({}, X, ROW[0]):
                self.assertRaises(NoNumber, row_times, (one, sort, ONE), NOUGHT)

    def test_there_and_back(self):
        for row in self.drawn(72, 4):
            for number in NUMBERS:
                there = row_times(row, number)
                self.assertEqual(row_times(there, pair_of(1 / Fraction(*number))), row)


class RowPut(RowTest):
    def test_told_as_written(self):
        self.assertEqual(row_put(ROW, "x", {"z": TWO}, ONE), ({"z": (3, 2), "y": (-2, 1)}, "most", (1, 12)))
        self.assertEqual(row_put(ROW, "x", {}, (4, 3)), ({"y": (-2, 1)}, "most", (-1, 6)))
        self.assertEqual(row_put(ROW, "x", {}, NOUGHT), ({"y": (-2, 1)}, "most", (5, 6)))
        self.assertEqual(row_put((X, "is", ONE), "x", {}, ONE), ({}, "is", NOUGHT))

    def test_an_unknown_that_does_not_stand_in_the_row(self):
        for unknown in ("z", "xx", "most", "abcdef"):
            self.assertEqual(row_put(ROW, unknown, {"x": ONE, unknown: TWO, "new": ONE}, (7, 1)), ROW)
        self.assertEqual(row_put(({}, "above", ONE), "x", X, ONE), ({}, "above", ONE))

    def test_a_sum_that_has_the_unknown_itself(self):
        self.assertEqual(row_put(ROW, "x", {"x": TWO}, NOUGHT), ({"x": (3, 2), "y": (-2, 1)}, "most", (5, 6)))
        self.assertEqual(row_put(ROW, "x", {"x": ONE}, NOUGHT), ROW)
        self.assertEqual(row_put(ROW, "x", {"x": ONE, "y": ONE}, TWO), ({"x": (3, 4), "y": (-5, 4)}, "most", (-2, 3)))

    def test_a_sum_that_takes_another_unknown_away(self):
        self.assertEqual(row_put(ROW, "x", {"y": (8, 3)}, ONE), ({}, "most", (1, 12)))
        self.assertEqual(row_put(ROW, "x", {"y": (8, 3), "x": ONE}, ONE), ({"x": (3, 4)}, "most", (1, 12)))
        self.assertEqual(row_put(ROW, "y", {"x": (3, 8)}, NOUGHT), ({}, "most", (5, 6)))

    def assert_put(self, row, unknown, one, number, point):
        """Look that a point keeps the row just where the old one is kept with the unknown at its new worth."""
        told = row_put(row, unknown, one, number)
        self.assertTrue(row_fits(told))
        self.assertEqual(told[1], row[1])
        there = {**point, unknown: pair_of(worth(one, point) + Fraction(*number))}
        self.assertIs(kept(told, point), kept(row, there))
        gap = worth(told[0], point) - Fraction(*told[2])
        self.assertEqual(gap, worth(row[0], there) - Fraction(*row[2]))

    def test_at_points(self):
        draw = Draw(73)
        for row in self.drawn(74):
            for number in (draw.fraction(9, 9), pair_of(Fraction(LONG, LONGER))):
                one = drawn_sum(draw, "wxyz", 9, 9)
                point = {unknown: draw.fraction(9, 9) for unknown in draw.shuffled("wxyz")[:3]}
                for unknown in ("x", "a", "new"):
                    self.assert_put(row, unknown, one, number, point)


class RowRenamed(RowTest):
    def test_told_as_written(self):
        self.assertEqual(row_renamed(ROW, {"x": "z"}), ({"z": (3, 4), "y": (-2, 1)}, "most", (5, 6)))
        self.assertEqual(row_renamed(ROW, {}), ROW)
        self.assertEqual(row_renamed(ROW, {"q": "z", "new": "x"}), ROW)

    def test_all_at_once(self):
        self.assertEqual(row_renamed(ROW, {"x": "y", "y": "x"}), ({"y": (3, 4), "x": (-2, 1)}, "most", (5, 6)))
        self.assertEqual(row_renamed(ROW, {"x": "y", "y": "z"}), ({"y": (3, 4), "z": (-2, 1)}, "most", (5, 6)))
        self.assertEqual(row_renamed(ROW, {"y": "x", "x": "z"}), ({"z": (3, 4), "x": (-2, 1)}, "most", (5, 6)))
        self.assertEqual(row_renamed(ROW, {"x": "x"}), ROW)
        told = row_renamed(ROW, {"x": "x", "y": "abcdef"})
        self.assertEqual(told, ({"x": (3, 4), "abcdef": (-2, 1)}, "most", (5, 6)))

    def test_a_ring(self):
        row = ({"a": ONE, "b": TWO, "c": MINUS, "d": (1, 2)}, "above", NOUGHT)
        names = {"a": "b", "b": "c", "c": "d", "d": "a"}
        told = row_renamed(row, names)
        self.assertEqual(told, ({"b": ONE, "c": TWO, "d": MINUS, "a": (1, 2)}, "above", NOUGHT))
        for _ in range(3):
            told = row_renamed(told, names)
        self.assertEqual(told, row)

    def test_two_would_become_one(self):
        for names in ({"x": "y"}, {"y": "x"}, {"x": "z", "y": "z"}, {"x": "y", "y": "y"}, {"x": "x", "y": "x"}):
            self.assertRaises(NoNames, row_renamed, ROW, names)
        alike = ({"x": ONE, "y": MINUS}, "is", NOUGHT)
        self.assertRaises(NoNames, row_renamed, alike, {"x": "y"})
        self.assertRaises(NoNames, row_renamed, ({"x": ONE, "y": ONE}, "is", NOUGHT), {"x": "y"})

    def test_names_that_go_together_outside_of_the_sum(self):
        self.assertEqual(row_renamed((X, "is", ONE), {"x": "y", "y": "y", "z": "y"}), ({"y": ONE}, "is", ONE))
        self.assertEqual(row_renamed((X, "is", ONE), {"y": "x", "z": "x"}), (X, "is", ONE))
        self.assertEqual(row_renamed(({}, "is", ONE), {"x": "z", "y": "z"}), ({}, "is", ONE))
        told = row_renamed(ROW, {"x": "z", "z": "z", "q": "y"})
        self.assertEqual(told, ({"z": (3, 4), "y": (-2, 1)}, "most", (5, 6)))

    def test_all_names_of_three(self):
        row = ({"a": ONE, "b": TWO, "c": MINUS}, "below", ONE)
        for values in itertools.product("abcd", repeat=3):
            names = dict(zip("abc", values))
            if len(set(values)) < 3:
                self.assertRaises(NoNames, row_renamed, row, names)
            else:
                wanted = ({names[unknown]: row[0][unknown] for unknown in row[0]}, "below", ONE)
                self.assertEqual(row_renamed(row, names), wanted)


class PlainRow(RowTest):
    def test_told_as_written(self):
        self.assertEqual(plain_row(ROW), ({"x": (9, 1), "y": (-24, 1)}, "most", (10, 1)))
        self.assertEqual(plain_row(({"x": (-2, 1)}, "most", (4, 1))), (X, "least", (-2, 1)))
        told = plain_row(({"b": TWO, "a": (-4, 1)}, "below", NOUGHT))
        self.assertEqual(told, ({"a": TWO, "b": MINUS}, "above", NOUGHT))
        self.assertEqual(plain_row(({"x": (6, 1)}, "is", (3, 1))), ({"x": TWO}, "is", ONE))
        self.assertEqual(plain_row(({"x": (6, 1)}, "is", (1, 2))), ({"x": (12, 1)}, "is", ONE))
        self.assertEqual(plain_row(({"b": ONE, "ab": MINUS}, "is", ONE)), ({"ab": ONE, "b": MINUS}, "is", MINUS))

    def test_without_unknowns(self):
        kept_at = {"is": (0,), "most": (0, 1), "least": (-1, 0), "below": (1,), "above": (-1,)}
        for sort in SORTS:
            for sign in (-1, 0, 1):
                for number in (Fraction(1), Fraction(1, 99), Fraction(LONG)):
                    told = plain_row(({}, sort, pair_of(sign * number)))
                    self.assertEqual(told, ({}, "is", NOUGHT if sign in kept_at[sort] else ONE))

    def test_drawn_rows(self):
        for row in self.drawn(75):
            told = plain_row(row)
            self.assertTrue(row_fits(told))
            self.assertEqual(told, plain_by_hand(row))
            self.assertEqual(plain_row(told), told)
            for point in POINTS:
                self.assertIs(kept(told, point), kept(row, point))
            if row[0]:
                numbers = [*told[0].values(), told[2]]
                self.assertEqual({bottom for top, bottom in numbers}, {1})
                self.assertEqual(math.gcd(*(top for top, bottom in numbers)), 1)
                self.assertGreater(told[0][min(told[0])][0], 0)

    def test_some_times_it_is_the_same(self):
        for row in self.drawn(76, 4):
            for number in NUMBERS:
                self.assertEqual(plain_row(row_times(row, number)), plain_row(row))


class SameRow(RowTest):
    def assert_same(self, wanted, one, other):
        self.assertIs(same_row(one, other), wanted, (one, other))
        self.assertIs(same_row(other, one), wanted, (one, other))

    def test_some_times(self):
        for row in self.drawn(77, 4):
            self.assert_same(True, row, row)
            for number in NUMBERS:
                self.assert_same(True, row, row_times(row, number))

    def test_near_misses(self):
        for row in self.drawn(78, 4):
            one, sort, bound = row
            if not one:
                continue
            for number in NUMBERS:
                there, there_sort, there_bound = row_times(row, number)
                if sort != "is":
                    self.assert_same(False, row, (there, TURNED[there_sort], there_bound))
                beside = pair_of(Fraction(*there_bound) + Fraction(1, LONGER))
                self.assert_same(False, row, (there, there_sort, beside))
                unknown = min(one)
                changed = {**there, unknown: pair_of(Fraction(*there[unknown]) * Fraction(LONG, LONGER))}
                if len(one) > 1 or bound != NOUGHT:
                    self.assert_same(False, row, (changed, there_sort, there_bound))
                self.assert_same(False, row, ({**there, "new": (1, LONGER)}, there_sort, there_bound))
            for other in SORTS:
                self.assert_same(other == sort, row, (one, other, bound))

    def test_without_unknowns(self):
        rows = [({}, sort, bound) for sort in SORTS for bound in (NOUGHT, ONE, MINUS, (1, LONG))]
        for one, other in itertools.product(rows, rows):
            self.assert_same(kept(one, {}) == kept(other, {}), one, other)
        for row in rows:
            self.assert_same(False, row, (X, "is", NOUGHT))
            self.assert_same(False, row, (X, row[1], row[2]))

    def test_by_their_plain_rows(self):
        rows = list(self.drawn(79, 3))
        for one, other in itertools.product(rows[::2], rows[:60]):
            self.assert_same(plain_by_hand(one) == plain_by_hand(other), one, other)


if __name__ == "__main__":
    unittest.main()
