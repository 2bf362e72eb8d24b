"""Points 5, 16, 17 and 18: how small and how great a sum can be, and whether it is fixed."""

import itertools
import unittest

from looking import (
    SORTS, Draw, drawn_rows, drawn_rows_at, drawn_sum, end_right, fixed_right, in_other_orders, keeps_all, shows_clash,
    span_right, way_fits, worth,
)
from scopestore.errors import NoPoint
from scopestore.spans import fixed_of, span_of
from scopestore.verdicts import verdict_of

NOUGHT = (0, 1)
ONE = (1, 1)
TWO = (2, 1)
MINUS = (-1, 1)
X = {"x": ONE}
Y = {"y": ONE}
BOTH = {"x": ONE, "y": ONE}
APART = {"x": ONE, "y": MINUS}
ALL = {"w": ONE, "x": (2, 1), "y": (3, 1), "z": (4, 1)}
NAMES = ("c", "a", "h", "b", "e", "g", "d", "f")
UNKNOWNS = ("x", "xy", "xyz", ("b", "aa", "a", "zz"))
WITHOUT = ("without", None)


def named(*rows):
    """Tell rows with names that do not rise."""
    return list(zip(NAMES, rows))


def box(low, high, unknowns="wxyz"):
    """Tell rows that hold each unknown between nought and one, by rows of these sorts."""
    rows = [({unknown: ONE}, low, NOUGHT) for unknown in unknowns]
    return named(*rows, *(({unknown: ONE}, high, ONE) for unknown in unknowns))


# Rows, a sum, and its least and greatest: the word and the worth.
SPANS = {
    "a least and a most": (named((X, "least", ONE), (X, "most", TWO)), X, ("at", ONE), ("at", TWO)),
    "the sum some times": (
        named((X, "least", ONE), (X, "most", TWO)), {"x": (-3, 4)}, ("at", (-3, 2)), ("at", (-3, 4)),
    ),
    "a below": (named((X, "below", TWO)), X, WITHOUT, ("near", TWO)),
    "an above": (named((X, "above", TWO)), X, ("near", TWO), WITHOUT),
    "both strict": (named((X, "above", ONE), (X, "below", TWO)), X, ("near", ONE), ("near", TWO)),
    "a least and a below": (named((X, "least", ONE), (X, "below", TWO)), X, ("at", ONE), ("near", TWO)),
    "an above and a most": (named((X, "above", ONE), (X, "most", TWO)), X, ("near", ONE), ("at", TWO)),
    "turned by the sum": (
        named((X, "above", ONE), (X, "most", TWO)), {"x": MINUS}, ("at", (-2, 1)), ("near", MINUS),
    ),
    "two of which one is strict": (
        named((X, "least", ONE), (X, "above", ONE), (X, "most", TWO), (X, "below", TWO)), X,
        ("near", ONE), ("near", TWO),
    ),
    "a strict one that is further out": (
        named((X, "least", ONE), (X, "above", NOUGHT), (X, "most", TWO), (X, "below", (3, 1))), X,
        ("at", ONE), ("at", TWO),
    ),
    "a sum of two, one strict": (
        named((X, "most", ONE), (Y, "below", ONE), (X, "above", NOUGHT), (Y, "least", NOUGHT)), BOTH,
        ("near", NOUGHT), ("near", TWO),
    ),
    "by a below and an above together": (
        named((X, "below", ONE), (Y, "above", MINUS), (X, "above", NOUGHT), (Y, "below", NOUGHT)), APART,
        ("near", NOUGHT), ("near", TWO),
    ),
    "come to at a corner, strict rows beside it": (
        named((X, "most", ONE), (Y, "most", ONE), (BOTH, "below", (3, 1)), (APART, "above", (-3, 1))), BOTH,
        WITHOUT, ("at", TWO),
    ),
    "strict and not strict rows at one corner, come to": (
        named((X, "most", ONE), (Y, "below", ONE), (Y, "least", NOUGHT), (X, "least", NOUGHT)), X,
        ("at", NOUGHT), ("at", ONE),
    ),
    "no end": (named((Y, "is", ONE)), X, WITHOUT, WITHOUT),
    "no end but on one side": (named((BOTH, "least", ONE), (APART, "most", ONE)), Y, ("at", NOUGHT), WITHOUT),
    "no end along a ray": (
        named((X, "least", NOUGHT), (Y, "least", NOUGHT), (APART, "is", NOUGHT)), BOTH, ("at", NOUGHT), WITHOUT,
    ),
    "an is": (named((X, "is", (3, 7))), X, ("at", (3, 7)), ("at", (3, 7))),
    "an is, some times": (named((BOTH, "is", (3, 7))), {"x": (-7, 1), "y": (-7, 1)}, ("at", (-3, 1)), ("at", (-3, 1))),
    "one point alone": (
        named((BOTH, "most", TWO), (X, "least", ONE), (Y, "least", ONE)), APART, ("at", NOUGHT), ("at", NOUGHT),
    ),
    "two of is": (named((BOTH, "is", (3, 1)), (APART, "is", ONE)), Y, ("at", ONE), ("at", ONE)),
    "the same twice": (
        named((X, "most", TWO), (X, "most", TWO), (X, "below", (5, 2)), (X, "most", TWO)), X, WITHOUT, ("at", TWO),
    ),
    "the same twice, strict": (named((X, "below", TWO), (X, "below", TWO)), X, WITHOUT, ("near", TWO)),
    "rows of nothing": (
        named(({}, "is", NOUGHT), ({}, "below", ONE), ({}, "above", MINUS), ({}, "most", NOUGHT), (X, "least", ONE)), X,
        ("at", ONE), WITHOUT,
    ),
    "nothing": (named((X, "above", ONE), (Y, "below", ONE)), {}, ("at", NOUGHT), ("at", NOUGHT)),
    "nothing of no rows": ([], {}, ("at", NOUGHT), ("at", NOUGHT)),
    "something of no rows": ([], BOTH, WITHOUT, WITHOUT),
    "an unknown in no row": (named((X, "is", ONE)), {"x": ONE, "new": (1, 99)}, WITHOUT, WITHOUT),
    "an unknown in no row alone": (named((X, "is", ONE)), {"new": (-1, 99)}, WITHOUT, WITHOUT),
    "a box": (box("least", "most"), ALL, ("at", NOUGHT), ("at", (10, 1))),
    "a box, strict": (box("above", "below"), ALL, ("near", NOUGHT), ("near", (10, 1))),
    "a box, strict at one side": (box("above", "most"), {"w": ONE, "z": MINUS}, ("near", MINUS), ("near", ONE)),
    "a chain": (
        named(
            ({"w": ONE, "x": MINUS}, "most", NOUGHT), ({"x": ONE, "y": MINUS}, "below", NOUGHT),
            ({"y": ONE, "z": MINUS}, "most", NOUGHT), ({"z": ONE}, "most", ONE), ({"w": ONE}, "least", NOUGHT),
        ), {"w": ONE}, ("at", NOUGHT), ("near", ONE),
    ),
    "a name like an unknown": ([("x", (Y, "most", ONE)), ("y", (X, "above", ONE))], APART, ("near", NOUGHT), WITHOUT),
}
CLASHES = (
    named((X, "is", ONE), (X, "is", TWO)),
    named((X, "below", ONE), (X, "least", ONE)),
    named(({}, "is", ONE)),
    named(({}, "above", NOUGHT), (Y, "most", ONE)),
    named((BOTH, "below", TWO), (X, "least", ONE), (Y, "least", ONE)),
)


class SpanTest(unittest.TestCase):
    def assert_span(self, rows, one):
        """Look through a span clause by clause, and tell its two words."""
        told = span_of(rows, one)
        self.assertTrue(span_right(rows, one, told), (rows, one, told))
        return (told[0][0], told[1][0])

    def assert_fixed(self, rows, one):
        """Look through what is told fixed or free, and tell the word."""
        told = fixed_of(rows, one)
        self.assertTrue(fixed_right(rows, one, told), (rows, one, told))
        return told[0]

    def assert_no_point(self, rows, one):
        self.assertTrue(shows_clash(rows, verdict_of(rows)[1]))
        for kind in (list, tuple):
            self.assertRaises(NoPoint, span_of, kind(rows), one)
            self.assertRaises(NoPoint, fixed_of, kind(rows), one)

    def assert_drawn(self, rows, one):
        """Look at drawn rows and a sum, and tell the words; None where no point keeps the rows."""
        if verdict_of(rows)[0] == "clash":
            self.assert_no_point(rows, one)
            return None
        words = self.assert_span(rows, one)
        self.assertIs(self.assert_fixed(rows, one) == "fixed", self.has_one_worth(rows, one))
        return words

    def has_one_worth(self, rows, one):
        least, greatest = span_of(rows, one)
        return least[0] == greatest[0] == "at" and least[1] == greatest[1]


class SpanOf(SpanTest):
    def test_told_as_written(self):
        for told, (rows, one, *ends) in SPANS.items():
            with self.subTest(told):
                span = span_of(rows, one)
                self.assertTrue(span_right(rows, one, span), span)
                for end, (word, here) in zip(span, ends):
                    self.assertEqual(end[0], word)
                    if here is not None:
                        self.assertEqual(end[1], here)

    def test_one_row_of_each_sort(self):
        upper = {"is": "at", "most": "at", "below": "near", "least": "without", "above": "without"}
        lower = {"is": "at", "most": "without", "below": "without", "least": "at", "above": "near"}
        for sort in SORTS:
            for bound in (NOUGHT, ONE, (-999, 98)):
                for one in (X, BOTH, {"x": (-3, 4), "y": (2, 3), "zz": (1, 99)}):
                    rows = named((one, sort, bound))
                    self.assertEqual(self.assert_span(rows, one), (lower[sort], upper[sort]))
                    turned = {key: (-top, bottom) for key, (top, bottom) in one.items()}
                    self.assertEqual(self.assert_span(rows, turned), (upper[sort], lower[sort]))

    def test_nothing_has_nought_on_both_sides(self):
        for rows in [[], ()] + [rows for rows, one, *ends in SPANS.values()]:
            for end in span_of(rows, {}):
                self.assertEqual((end[0], end[1], end[3]), ("at", NOUGHT, {}))
                self.assertTrue(keeps_all(rows, end[2]))

    def test_an_unknown_in_no_row_has_no_end(self):
        for rows, one, *ends in SPANS.values():
            for number in (ONE, (-1, 99)):
                self.assertEqual(self.assert_span(rows, {**one, "new": number}), ("without", "without"))
                self.assertEqual(self.assert_span(rows, {"new": number}), ("without", "without"))

    def test_no_point(self):
        for rows in CLASHES:
            for one in ({}, X, Y, BOTH, {"new": ONE}):
                self.assert_no_point(rows, one)

    def test_drawn_rows(self):
        draw = Draw(20)
        seen = []
        for many in range(1, 9):
            for unknowns in UNKNOWNS:
                for top, bottom in ((1, 1), (2, 1), (4, 2), (999, 99)):
                    for _ in range(6):
                        rows = drawn_rows(draw, many, unknowns, SORTS, top, bottom)
                        seen.append(self.assert_drawn(rows, drawn_sum(draw, unknowns, top, bottom)))
        self.assert_all_kinds(seen, 12)
        self.assertGreater(seen.count(None), 100)

    def test_drawn_rows_near_a_point(self):
        draw = Draw(21)
        seen = []
        for many in range(1, 9):
            for unknowns in UNKNOWNS:
                for _ in range(8):
                    point = {unknown: draw.fraction(99, 9) for unknown in unknowns}
                    rows = drawn_rows_at(draw, many, unknowns, point)
                    seen.append(self.assert_drawn(rows, drawn_sum(draw, unknowns, 999, 99)))
        self.assertNotIn(None, seen)
        self.assert_all_kinds(seen, 5)

    def test_drawn_rows_that_all_meet_at_nought(self):
        """Where all bounds are nought many slacks come to their bounds at once."""
        draw = Draw(22)
        seen = []
        for many in range(1, 9):
            for unknowns in UNKNOWNS:
                for _ in range(10):
                    rows = drawn_rows(draw, many, unknowns, SORTS, 2, 1)
                    rows = [(name, (one, sort, NOUGHT)) for name, (one, sort, bound) in rows]
                    seen.append(self.assert_drawn(rows, drawn_sum(draw, unknowns, 2, 1)))
        words = {word for pair in seen if pair is not None for word in pair}
        self.assertEqual(words, {"at", "near", "without"})

    def assert_all_kinds(self, seen, often):
        """Look that each pair of ends that can be was seen, most of them often."""
        pairs = [pair for pair in seen if pair is not None]
        for side in (0, 1):
            for word in ("at", "near", "without"):
                self.assertGreater([pair[side] for pair in pairs].count(word), often)
        self.assertEqual(len(set(pairs)), 9)

    def test_somewhat_more_than_the_bounds_allow(self):
        draw = Draw(23)
        for _ in range(20):
            point = {unknown: draw.fraction(9999, 999) for unknown in "uvwxyz"}
            rows = drawn_rows_at(draw, 10, "uvwxyz", point, 9999, 999)
            self.assertIsNotNone(self.assert_drawn(rows, drawn_sum(draw, "uvwxyz", 9999, 999)))

    def test_a_told_worth_may_be_handed_in_again(self):
        draw = Draw(24)
        for _ in range(10):
            point = {unknown: draw.fraction(99, 9) for unknown in "wxyz"}
            rows = drawn_rows_at(draw, 7, "wxyz", point)
            for end in span_of(rows, {"w": ONE}) + span_of(rows, {"x": MINUS}):
                if end[0] == "at":
                    more = rows + [("more", ({"w": ONE}, "most", end[1]))]
                    self.assert_drawn(more, {"y": ONE})
                    self.assert_drawn(rows + [("more", (X, "least", end[2]["x"]))], X)


class FixedOf(SpanTest):
    FIXED = {
        "an is": (named((X, "is", TWO), (Y, "above", ONE)), X, TWO),
        "an is, some times": (named((BOTH, "is", TWO)), {"x": (-1, 3), "y": (-1, 3)}, (-2, 3)),
        "a most and a least": (named((X, "most", TWO), (X, "least", TWO)), X, TWO),
        "only together": (named((BOTH, "most", TWO), (X, "least", ONE), (Y, "least", ONE)), APART, NOUGHT),
        "a ring": (
            named(
                ({"x": ONE, "y": MINUS}, "most", ONE), ({"y": ONE, "z": MINUS}, "most", TWO),
                ({"z": ONE, "x": MINUS}, "most", (-3, 1)),
            ), APART, ONE,
        ),
        "beside strict rows": (
            named((X, "most", TWO), (X, "least", TWO), (X, "below", (3, 1)), (BOTH, "above", ONE)), X, TWO,
        ),
        "nothing": (named((X, "above", ONE)), {}, NOUGHT),
        "nothing of no rows": ([], {}, NOUGHT),
        "two of is": (named((BOTH, "is", (3, 1)), (APART, "is", ONE)), {"x": (1, 2), "y": (1, 3)}, (4, 3)),
    }
    FREE = {
        "an unknown in no row": (named((X, "is", ONE)), {"new": ONE}),
        "an unknown in no row among others": (named((X, "is", ONE)), {"x": ONE, "new": (-1, 9)}),
        "of no rows": ([], X),
        "between bounds": (named((X, "least", ONE), (X, "most", (100, 99))), X),
        "between bounds that are come near to": (named((X, "above", ONE), (X, "below", (100, 99))), X),
        "a least and a below": (named((X, "least", ONE), (X, "below", (100, 99))), X),
        "an above and a most": (named((X, "above", ONE), (X, "most", (100, 99))), X),
        "above alone": (named((X, "above", ONE)), X),
        "below alone": (named((X, "below", ONE)), X),
        "the other of a fixed pair": (named((BOTH, "is", ONE)), X),
        "pinched in one way alone": (named((BOTH, "most", ONE), (BOTH, "least", ONE), (X, "least", NOUGHT)), Y),
    }

    def test_fixed(self):
        for told, (rows, one, here) in self.FIXED.items():
            with self.subTest(told):
                self.assertEqual(self.assert_fixed(rows, one), "fixed")
                self.assertEqual(fixed_of(rows, one)[1], here)

    def test_free(self):
        for told, (rows, one) in self.FREE.items():
            with self.subTest(told):
                self.assertEqual(self.assert_fixed(rows, one), "free")

    def test_all_spans(self):
        for told, (rows, one, least, greatest) in SPANS.items():
            with self.subTest(told):
                fixed = least == greatest and least[0] == "at"
                self.assertEqual(self.assert_fixed(rows, one), "fixed" if fixed else "free")

    def test_no_point(self):
        for rows in CLASHES:
            for one in ({}, X, BOTH, {"new": ONE}):
                self.assertRaises(NoPoint, fixed_of, rows, one)

    def test_drawn_rows_of_is(self):
        draw = Draw(25)
        seen = []
        for many in (1, 2, 3, 4):
            for unknowns in UNKNOWNS:
                for _ in range(6):
                    point = {unknown: draw.fraction(9, 3) for unknown in unknowns}
                    rows = drawn_rows_at(draw, many, unknowns, point, 2, 1)
                    rows = [(name, (one, "is", (worth(one, point).numerator, worth(one, point).denominator)))
                            for name, (one, sort, bound) in rows]
                    one = drawn_sum(draw, unknowns, 2, 1)
                    seen.append(self.assert_fixed(rows, one))
                    self.assertIs(seen[-1] == "fixed", self.has_one_worth(rows, one))
        self.assertGreater(seen.count("fixed"), 20)
        self.assertGreater(seen.count("free"), 20)


class HangsOnTheRowsAlone(SpanTest):
    """Point 5: not on any order, nor on what was asked before."""

    def assert_same(self, rows, one):
        span, fixed = span_of(rows, one), fixed_of(rows, one)
        keys_turned = {key: one[key] for key in reversed(one)}
        for other in in_other_orders(rows):
            self.assertEqual(span_of(other, keys_turned), span)
            self.assertEqual(fixed_of(other, keys_turned), fixed)

    def test_written_ones(self):
        for rows, one, *ends in SPANS.values():
            self.assert_same(rows, one)
            span, fixed = span_of(rows, one), fixed_of(rows, one)
            for order in itertools.islice(itertools.permutations(rows), 30):
                self.assertEqual(span_of(order, one), span)
                self.assertEqual(fixed_of(order, one), fixed)

    def test_drawn_ones(self):
        draw = Draw(26)
        for many in (3, 5, 8):
            for unknowns in UNKNOWNS:
                for top, bottom in ((2, 1), (999, 99)):
                    point = {unknown: draw.fraction(9, 9) for unknown in unknowns}
                    rows = drawn_rows_at(draw, many, unknowns, point, top, bottom)
                    self.assert_same(rows, drawn_sum(draw, unknowns, top, bottom))

    def test_the_same_at_each_asking(self):
        asked = [(rows, one) for rows, one, *ends in SPANS.values()]
        first = [(span_of(*pair), fixed_of(*pair)) for pair in asked]
        again = [(span_of(*pair), fixed_of(*pair)) for pair in reversed(asked)]
        self.assertEqual(first, again[::-1])


class Lookers(unittest.TestCase):
    """That the lookers of these tests tell wrong answers."""

    def test_ends(self):
        rows = named((X, "below", TWO), (X, "least", ONE))
        near, at = span_of(rows, X)[1], span_of(rows, X)[0]
        self.assertTrue(end_right(rows, X, 1, near) and end_right(rows, X, -1, at))
        point = {"x": (3, 2)}
        self.assertFalse(end_right(rows, X, 1, ("near", (3, 1), {"x": (3, 1)}, point, {"c": ONE})))
        self.assertFalse(end_right(rows, X, 1, ("near", TWO, {"x": TWO}, {"x": TWO}, {"c": ONE})))
        self.assertFalse(end_right(rows, X, 1, ("near", TWO, point, point, {"c": ONE})))
        self.assertFalse(end_right(rows, X, 1, ("at", TWO, {"x": TWO}, {"c": ONE})))
        self.assertFalse(end_right(rows, X, 1, ("at", TWO, point, {"c": ONE})))
        self.assertFalse(end_right(rows, X, 1, ("without", point, {"x": ONE})))
        self.assertFalse(end_right(rows, X, -1, ("without", point, {"x": MINUS})))
        self.assertFalse(end_right(rows, X, 1, at) or end_right(rows, X, -1, near))
        self.assertFalse(way_fits(rows, {"x": MINUS}) or way_fits(rows, {"x": ONE}))
        self.assertTrue(way_fits(rows, {"x": NOUGHT, "y": ONE}))

    def test_fixed(self):
        rows = named((X, "is", TWO))
        self.assertTrue(fixed_right(rows, X, ("fixed", TWO, {"c": ONE}, {"c": MINUS})))
        self.assertFalse(fixed_right(rows, X, ("fixed", ONE, {"c": ONE}, {"c": MINUS})))
        self.assertFalse(fixed_right(rows, X, ("fixed", TWO, {"c": MINUS}, {"c": ONE})))
        self.assertFalse(fixed_right(rows, X, ("free", {"x": TWO}, {"x": TWO})))
        self.assertFalse(fixed_right(rows, X, ("free", {"x": TWO}, {"x": ONE})))
        self.assertTrue(fixed_right(rows, Y, ("free", {"x": TWO}, {"x": TWO, "y": ONE})))


if __name__ == "__main__":
    unittest.main()
