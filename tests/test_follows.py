"""Points 5 and 19: whether a row follows from rows."""

import itertools
import unittest
from fractions import Fraction

from looking import (
    SORTS, Draw, drawn_rows, drawn_rows_at, drawn_sum, follows_right, in_other_orders, made_by, pair_of, shows_clash,
)
from scopestore.errors import NoPoint
from scopestore.follows import follows_of
from scopestore.spans import span_of
from scopestore.verdicts import verdict_of

NOUGHT = (0, 1)
ONE = (1, 1)
TWO = (2, 1)
THREE = (3, 1)
MINUS = (-1, 1)
X = {"x": ONE}
Y = {"y": ONE}
BOTH = {"x": ONE, "y": ONE}
APART = {"x": ONE, "y": MINUS}
NAMES = ("c", "a", "h", "b", "e", "g", "d", "f")
UNKNOWNS = ("x", "xy", "xyz", ("b", "aa", "a", "zz"))
GAPS = (Fraction(0), Fraction(1, 98), Fraction(-1, 98), Fraction(7), Fraction(-7))


def named(*rows):
    """Tell rows with names that do not rise."""
    return list(zip(NAMES, rows))


HELD = named((X, "least", ONE), (X, "most", TWO))
OPEN = named((X, "above", ONE), (X, "below", TWO))
PINNED = named((X, "is", TWO))
PINCHED = named((X, "most", TWO), (X, "least", TWO))
CORNER = named((BOTH, "most", TWO), (X, "least", ONE), (Y, "least", ONE))
CLASHES = (
    named((X, "is", ONE), (X, "is", TWO)),
    named((X, "below", ONE), (X, "least", ONE)),
    named(({}, "is", ONE)),
    named(({}, "above", NOUGHT), (Y, "most", ONE)),
)


def rising_from(here, sort):
    """Tell by hand which bounds beside a worth make a row follow, where the worth is an end that is come to."""
    return {"most": here >= 0, "below": here > 0, "least": here <= 0, "above": here < 0, "is": False}[sort]


class FollowsTest(unittest.TestCase):
    def assert_told(self, rows, row):
        """Look through what is told, and tell the word."""
        told = follows_of(rows, row)
        self.assertTrue(follows_right(rows, row, told), (rows, row, told))
        return told[0]

    def assert_follows(self, rows, row):
        self.assertEqual(self.assert_told(rows, row), "follows", (rows, row))

    def assert_not(self, rows, row):
        self.assertEqual(self.assert_told(rows, row), "not", (rows, row))


class FollowsOf(FollowsTest):
    def test_at_a_little_beyond_and_a_little_short_of_what_is_come_to(self):
        for gap in GAPS:
            for sort, end in (("most", 2), ("below", 2), ("least", 1), ("above", 1)):
                word = self.assert_told(HELD, (X, sort, pair_of(end + gap)))
                self.assertEqual(word, "follows" if rising_from(gap, sort) else "not", (sort, gap))

    def test_at_a_little_beyond_and_a_little_short_of_what_is_come_near_to(self):
        for gap in GAPS:
            for sort, end in (("most", 2), ("below", 2), ("least", 1), ("above", 1)):
                word = self.assert_told(OPEN, (X, sort, pair_of(end + gap)))
                follows = gap >= 0 if end == 2 else gap <= 0
                self.assertEqual(word, "follows" if follows else "not", (sort, gap))

    def test_the_other_side_has_no_end(self):
        rows = named((X, "below", TWO), (Y, "above", ONE))
        for bound in (NOUGHT, TWO, (999, 1), (-999, 1)):
            for sort in ("least", "above", "is"):
                self.assert_not(rows, (X, sort, bound))
            for sort in ("most", "below", "is"):
                self.assert_not(rows, (Y, sort, bound))
                self.assert_not(rows, ({"new": ONE}, sort, bound))

    def test_by_rows_together(self):
        rows = named((X, "below", ONE), (Y, "most", ONE), (X, "least", NOUGHT), (Y, "least", NOUGHT))
        for row in (
            (BOTH, "below", TWO), (BOTH, "most", TWO), (BOTH, "least", NOUGHT), (BOTH, "above", (-1, 99)),
            (APART, "below", ONE), (APART, "least", MINUS), ({"x": (1, 2), "y": (1, 3)}, "below", (5, 6)),
        ):
            self.assert_follows(rows, row)
        for row in (
            (BOTH, "below", (199, 100)), (BOTH, "most", (199, 100)), (BOTH, "above", NOUGHT), (APART, "above", MINUS),
            (APART, "below", (99, 100)), (APART, "is", NOUGHT), ({"x": (1, 2), "y": (1, 3)}, "most", (4, 6)),
        ):
            row = (row[0], row[1], pair_of(Fraction(*row[2])))
            self.assert_not(rows, row)

    def test_strict_grounds_for_a_strict_row_at_its_bound(self):
        rows = named((X, "most", ONE), (Y, "below", ONE))
        told = follows_of(rows, (BOTH, "below", TWO))
        self.assertEqual(made_by(rows, told[1][0]), ({"x": 1, "y": 1}, 2, True))
        self.assert_not(named((X, "most", ONE), (Y, "most", ONE)), (BOTH, "below", TWO))

    def test_an_is(self):
        for rows in (PINNED, PINCHED):
            self.assert_follows(rows, (X, "is", TWO))
            self.assert_follows(rows, ({"x": (-1, 2)}, "is", MINUS))
            self.assert_not(rows, (X, "is", THREE))
            self.assert_not(rows, (X, "is", ONE))
            self.assert_not(rows, (BOTH, "is", TWO))
        self.assert_follows(CORNER, (APART, "is", NOUGHT))
        self.assert_follows(CORNER, (X, "is", ONE))

    def test_an_is_on_one_side_only(self):
        self.assert_not(named((X, "most", TWO)), (X, "is", TWO))
        self.assert_not(named((X, "least", TWO)), (X, "is", TWO))
        self.assert_not(named((X, "below", TWO)), (X, "is", TWO))
        self.assert_not(named((X, "above", TWO)), (X, "is", TWO))
        self.assert_not(HELD, (X, "is", ONE))
        self.assert_not(HELD, (X, "is", TWO))
        self.assert_not(HELD, (X, "is", (3, 2)))
        self.assert_not(OPEN, (X, "is", (3, 2)))

    def test_of_an_is_each_sort_follows(self):
        for rows in (PINNED, PINCHED):
            for gap in GAPS:
                for sort in SORTS:
                    follows = {"is": gap == 0, "most": gap >= 0, "least": gap <= 0, "below": gap > 0, "above": gap < 0}
                    word = self.assert_told(rows, (X, sort, pair_of(2 + gap)))
                    self.assertEqual(word, "follows" if follows[sort] else "not")

    def test_rows_without_unknowns(self):
        kept_at = {"is": (0,), "most": (0, 1), "least": (-1, 0), "below": (1,), "above": (-1,)}
        for rows in ([], (), HELD, OPEN, PINNED, CORNER, named(({}, "is", NOUGHT))):
            for sort in SORTS:
                for top in (-1, 0, 1):
                    row = ({}, sort, (top, 1))
                    if top in kept_at[sort]:
                        self.assertEqual(follows_of(rows, row), ("follows", [{}, {}] if sort == "is" else [{}]))
                    else:
                        self.assert_not(rows, row)

    def test_of_no_rows_nothing_follows_that_has_unknowns(self):
        for sort in SORTS:
            for one in (X, BOTH):
                self.assert_not([], (one, sort, NOUGHT))
                self.assert_not((), (one, sort, (-999, 98)))

    def test_each_row_follows_from_itself(self):
        draw = Draw(30)
        for many in range(1, 9):
            for unknowns in UNKNOWNS:
                point = {unknown: draw.fraction(99, 9) for unknown in unknowns}
                rows = drawn_rows_at(draw, many, unknowns, point)
                for name, row in rows:
                    self.assert_follows(rows, row)

    def test_no_point(self):
        for rows in CLASHES:
            self.assertTrue(shows_clash(rows, verdict_of(rows)[1]))
            for row in ((X, "is", ONE), ({}, "is", NOUGHT), ({}, "is", ONE), ({"new": ONE}, "below", ONE)):
                self.assertRaises(NoPoint, follows_of, rows, row)
                self.assertRaises(NoPoint, follows_of, tuple(rows), row)

    def test_drawn_rows(self):
        draw = Draw(31)
        seen = []
        for many in range(1, 9):
            for unknowns in UNKNOWNS:
                for top, bottom in ((1, 1), (2, 1), (999, 99)):
                    for _ in range(4):
                        rows = drawn_rows(draw, many, unknowns, SORTS, top, bottom)
                        row = drawn_rows(draw, 1, unknowns, SORTS, top, bottom)[0][1]
                        if verdict_of(rows)[0] == "clash":
                            self.assertRaises(NoPoint, follows_of, rows, row)
                        else:
                            seen.append(self.assert_told(rows, row))
        self.assertGreater(seen.count("follows"), 20)
        self.assertGreater(seen.count("not"), 50)

    def test_drawn_bounds_beside_the_ends_of_a_span(self):
        draw = Draw(32)
        seen = []
        for many in range(2, 9):
            for unknowns in UNKNOWNS:
                point = {unknown: draw.fraction(9, 3) for unknown in unknowns}
                rows = drawn_rows_at(draw, many, unknowns, point, 3, 2)
                one = drawn_sum(draw, unknowns, 3, 2)
                for sign, end in zip((-1, 1), span_of(rows, one)):
                    seen += [self.assert_beside(rows, one, sign, end, gap) for gap in GAPS if end[0] != "without"]
        self.assertGreater(seen.count("follows"), 50)
        self.assertGreater(seen.count("not"), 50)

    def assert_beside(self, rows, one, sign, end, gap):
        """Look at a row whose bound is by the gap beside the end of a span, and tell the word."""
        sort, strict = ("most", "below") if sign == 1 else ("least", "above")
        bound = pair_of(Fraction(*end[1]) + gap)
        follows = gap * sign >= 0
        self.assertEqual(self.assert_told(rows, (one, sort, bound)), "follows" if follows else "not")
        follows = gap * sign > 0 or (gap == 0 and end[0] == "near")
        self.assertEqual(self.assert_told(rows, (one, strict, bound)), "follows" if follows else "not")
        return self.assert_told(rows, (one, "is", bound)) if gap == 0 else ("follows" if follows else "not")


class HangsOnTheRowsAlone(FollowsTest):
    """Point 5: not on any order, nor on what was asked before."""

    ASKED = [
        (rows, (one, sort, bound))
        for rows in (HELD, OPEN, PINNED, PINCHED, CORNER)
        for one in (X, BOTH, APART)
        for sort in SORTS
        for bound in (ONE, TWO, (3, 2))
    ]

    def test_in_all_orders(self):
        for rows, (one, sort, bound) in self.ASKED:
            told = follows_of(rows, (one, sort, bound))
            turned = ({key: one[key] for key in reversed(one)}, sort, bound)
            for order in itertools.permutations(rows):
                self.assertEqual(follows_of(order, turned), told)

    def test_drawn_ones(self):
        draw = Draw(33)
        for many in (3, 5, 8):
            for unknowns in UNKNOWNS:
                point = {unknown: draw.fraction(9, 9) for unknown in unknowns}
                rows = drawn_rows_at(draw, many, unknowns, point, 9, 9)
                row = (drawn_sum(draw, unknowns, 9, 9), draw.one_of(SORTS), draw.fraction(9, 9))
                told = follows_of(rows, row)
                for other in in_other_orders(rows):
                    self.assertEqual(follows_of(other, row), told)

    def test_the_same_at_each_asking(self):
        first = [follows_of(*pair) for pair in self.ASKED]
        again = [follows_of(*pair) for pair in reversed(self.ASKED)]
        self.assertEqual(first, again[::-1])


class Lookers(unittest.TestCase):
    """That the looker of these tests tells wrong answers."""

    def test_follows_right(self):
        row = (X, "below", TWO)
        self.assertTrue(follows_right(OPEN, row, ("follows", [{"a": ONE}])))
        self.assertFalse(follows_right(HELD, row, ("follows", [{"a": ONE}])))
        self.assertFalse(follows_right(OPEN, row, ("follows", {"a": ONE})))
        self.assertFalse(follows_right(OPEN, row, ("follows", [{"a": ONE}, {"c": MINUS}])))
        self.assertFalse(follows_right(OPEN, row, ("follows", [{"c": MINUS}])))
        self.assertFalse(follows_right(OPEN, row, ("not", {"x": TWO})))
        self.assertFalse(follows_right(OPEN, row, ("not", {"x": (3, 2)})))
        self.assertTrue(follows_right(HELD, row, ("not", {"x": TWO})))
        self.assertTrue(follows_right(PINNED, (X, "is", TWO), ("follows", [{"c": ONE}, {"c": MINUS}])))
        self.assertFalse(follows_right(PINNED, (X, "is", TWO), ("follows", [{"c": MINUS}, {"c": ONE}])))


if __name__ == "__main__":
    unittest.main()
