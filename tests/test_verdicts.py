"""Points 5, 10, 13 and 15: verdicts, and points row by row."""

import itertools
import unittest

from looking import (
    SORTS, Draw, drawn_rows, drawn_rows_at, in_other_orders, keeps_all, made_by, point_fits, shares_fit, shows_clash,
)
from scopestore.rows import keeps
from scopestore.verdicts import points_by_row, verdict_of

NOUGHT = (0, 1)
ONE = (1, 1)
MINUS = (-1, 1)
X = {"x": ONE}
Y = {"y": ONE}
BOTH = {"x": ONE, "y": ONE}
NAMES = ("c", "a", "h", "b", "e", "g", "d", "f")
UNKNOWNS = ("x", "xy", "xyz", ("b", "aa", "a", "zz"))


def named(*rows):
    """Tell rows with names that do not rise."""
    return list(zip(NAMES, rows))


def chain(sorts, bound=NOUGHT):
    """Tell rows of these sorts with the bound, each of an unknown less the next one, round in a ring."""
    unknowns = "wxyz"[:len(sorts)]
    return named(*(
        ({unknowns[at - 1]: ONE, unknowns[at]: MINUS}, sort, bound) for at, sort in enumerate(sorts)
    ))


KEPT = {
    "all five at a point": named(
        (X, "is", (3, 1)), (Y, "most", (4, 1)), (BOTH, "least", (7, 1)), (Y, "below", (9, 2)), (BOTH, "above", (6, 1)),
    ),
    "a narrow gap": named((X, "above", (1, 3)), (X, "below", (34, 99)), (Y, "above", (998, 1)), (Y, "below", (999, 1))),
    "a corner left out": named((BOTH, "most", (2, 1)), (X, "least", ONE), (Y, "least", ONE)),
    "edges met": named((X, "most", ONE), (X, "least", ONE), (Y, "least", (-1, 2)), (Y, "most", (-1, 2))),
    "strict, far from 0": named((X, "above", (999, 1)), ({"x": MINUS}, "above", (-1000, 1))),
    "the same twice": named((BOTH, "is", (5, 2)), (BOTH, "is", (5, 2)), (BOTH, "most", (5, 2))),
    "a row of nothing": named(({}, "is", NOUGHT), ({}, "most", NOUGHT), ({}, "least", (-1, 9)), ({}, "below", (1, 9))),
    "a chain of most": chain(("most",) * 4),
    "four above, tied": named(
        ({"w": ONE, "x": MINUS}, "above", NOUGHT), ({"x": ONE, "y": MINUS}, "above", NOUGHT),
        ({"y": ONE, "z": MINUS}, "above", NOUGHT), ({"z": ONE}, "above", NOUGHT), ({"w": ONE}, "below", (1, 99)),
    ),
}
CLASHES = {
    "by a number": named((X, "is", ONE), (X, "is", (2, 1))),
    "most and least": named((X, "most", ONE), (X, "least", (100, 99))),
    "most and least, the other way round": named((X, "least", (100, 99)), (X, "most", ONE)),
    "is and most": named((BOTH, "is", (3, 1)), (X, "most", ONE), (Y, "most", ONE)),
    "is and least": named((BOTH, "is", NOUGHT), (X, "least", ONE), (Y, "least", ONE)),
    "strict alone": named((X, "below", ONE), (X, "least", ONE)),
    "strict alone, above": named((X, "above", ONE), (X, "most", ONE)),
    "strict is": named((X, "is", ONE), (X, "below", ONE)),
    "strict is, above": named((X, "is", ONE), (X, "above", ONE)),
    "both strict": named((X, "below", ONE), (X, "above", ONE)),
    "strict, at three": named((BOTH, "below", (2, 1)), (X, "least", ONE), (Y, "least", ONE)),
    "strict, a chain": chain(("most", "most", "below", "most")),
    "a chain of least": chain(("least",) * 4, (1, 99)),
    "a chain of is": chain(("is", "is", "is"), (1, 3)),
    "nothing is one": named(({}, "is", ONE)),
    "nothing is minus one": named(({}, "is", MINUS)),
    "nothing is at most minus one": named(({}, "most", MINUS)),
    "nothing is at least one": named(({}, "least", ONE)),
    "nothing is below nought": named(({}, "below", NOUGHT)),
    "nothing is above nought": named(({}, "above", NOUGHT)),
    "nothing, among others": named((X, "is", ONE), ({}, "above", NOUGHT), (X, "most", (5, 1)), (Y, "least", (2, 1))),
    "eight on four": named(
        ({"w": ONE}, "least", NOUGHT), ({"x": ONE}, "least", NOUGHT), ({"y": ONE}, "least", NOUGHT),
        ({"z": ONE}, "least", NOUGHT), ({"w": ONE, "x": ONE, "y": ONE, "z": ONE}, "most", (-1, 99)),
        ({"w": ONE}, "most", (9, 1)), ({"x": ONE}, "below", (9, 1)), ({"y": ONE}, "above", (-9, 1)),
    ),
    "a clash beside a clash": named((X, "is", ONE), (X, "is", (2, 1)), (Y, "is", ONE), (Y, "is", (2, 1))),
}


class VerdictTest(unittest.TestCase):
    def assert_clash(self, rows, told):
        self.assertEqual(len(told), 3)
        word, shares, points = told
        self.assertEqual(word, "clash")
        self.assertTrue(shows_clash(rows, shares), told)
        self.assertIs(type(points), dict)
        self.assertEqual(set(points), set(shares))
        for name in points:
            others = [(other, row) for other, row in rows if other in shares and other != name]
            self.assertTrue(keeps_all(others, points[name]), told)

    def assert_verdict(self, rows):
        """Look through a verdict by what it carries, and tell its word."""
        told = verdict_of(rows)
        self.assertIs(type(told), tuple)
        if told[0] == "point":
            self.assertEqual(len(told), 2)
            self.assertTrue(point_fits(told[1]), told)
            self.assertTrue(keeps_all(rows, told[1]), told)
            self.assertTrue(all(keeps(row, told[1]) for name, row in rows))
        else:
            self.assert_clash(rows, told)
        return told[0]


class VerdictOf(VerdictTest):
    def test_no_rows(self):
        for rows in ([], ()):
            self.assertEqual(self.assert_verdict(rows), "point")

    def test_rows_that_a_point_keeps(self):
        for told, rows in KEPT.items():
            with self.subTest(told):
                self.assertEqual(self.assert_verdict(rows), "point")

    def test_rows_that_no_point_keeps(self):
        for told, rows in CLASHES.items():
            with self.subTest(told):
                self.assertEqual(self.assert_verdict(rows), "clash")

    def test_one_row_of_each_sort(self):
        for sort in SORTS:
            for bound in (NOUGHT, ONE, MINUS, (999, 98), (-999, 98)):
                for one in (X, {"x": MINUS}, BOTH, {"x": (-3, 4), "y": (2, 3), "z": (-1, 99)}):
                    self.assertEqual(self.assert_verdict(named((one, sort, bound))), "point")
                    self.assertEqual(self.assert_verdict(named((one, sort, bound), (one, sort, bound))), "point")

    def test_rows_of_nothing(self):
        kept_at = {"is": (0,), "most": (0, 1), "least": (-1, 0), "below": (1,), "above": (-1,)}
        for sort in SORTS:
            for top in (-1, 0, 1):
                rows = named(({}, sort, (top, 1)))
                self.assertEqual(self.assert_verdict(rows), "point" if top in kept_at[sort] else "clash")

    def test_a_clash_of_a_row_of_nothing_is_that_row(self):
        told = verdict_of(CLASHES["nothing, among others"])
        self.assertEqual(set(told[1]), {"a"})
        self.assertTrue(point_fits(told[2]["a"]))

    def test_shares_of_a_strict_clash(self):
        made, bound, strict = made_by(CLASHES["strict, at three"], verdict_of(CLASHES["strict, at three"])[1])
        self.assertEqual((made, bound, strict), ({}, 0, True))

    def test_all_pairs_of_sorts(self):
        """Of two rows on one sum it can be told by hand whether a point keeps both."""
        upper, lower = ("is", "most", "below"), ("is", "least", "above")
        for sort, other in itertools.product(SORTS, SORTS):
            for top in (-1, 0, 1):
                apart = (sort in lower and other in upper and top < 0) or (sort in upper and other in lower and top > 0)
                held = (sort in upper and other in lower) or (sort in lower and other in upper)
                tight = top == 0 and held and ("below" in (sort, other) or "above" in (sort, other))
                for one in (X, BOTH, {"x": (-2, 3), "y": (999, 98)}):
                    rows = named((one, sort, (5, 1)), (one, other, (5 + top, 1)))
                    with self.subTest(rows=rows):
                        self.assertEqual(self.assert_verdict(rows), "clash" if apart or tight else "point")

    def test_rows_and_unknowns_that_are_called_alike(self):
        rows = [("x", ({"y": ONE}, "least", ONE)), ("y", ({"x": ONE}, "below", NOUGHT)), ("xy", (BOTH, "is", NOUGHT))]
        self.assertEqual(self.assert_verdict(rows), "point")
        rows = rows + [("yx", ({"x": ONE, "y": (2, 1)}, "most", (1, 2)))]
        self.assertEqual(self.assert_verdict(rows), "clash")

    def test_drawn_rows(self):
        draw = Draw(6)
        seen = []
        for many in range(9):
            for unknowns in UNKNOWNS:
                for top, bottom in ((1, 1), (2, 1), (4, 2), (999, 99)):
                    for _ in range(6):
                        seen.append(self.assert_verdict(drawn_rows(draw, many, unknowns, SORTS, top, bottom)))
        self.assertGreater(seen.count("point"), 200)
        self.assertGreater(seen.count("clash"), 200)

    def test_drawn_rows_without_bounds_but_nought(self):
        """Where all bounds are nought, strictness alone makes the clash."""
        draw = Draw(7)
        seen = []
        for many in range(1, 9):
            for unknowns in UNKNOWNS:
                for _ in range(12):
                    rows = drawn_rows(draw, many, unknowns, SORTS, 2, 1)
                    seen.append(self.assert_verdict([(name, (row[0], row[1], NOUGHT)) for name, row in rows]))
        self.assertGreater(seen.count("point"), 50)
        self.assertGreater(seen.count("clash"), 50)

    def test_drawn_rows_near_a_point(self):
        draw = Draw(8)
        for many in range(1, 9):
            for unknowns in UNKNOWNS:
                for _ in range(6):
                    point = {unknown: draw.fraction(99, 9) for unknown in unknowns}
                    rows = drawn_rows_at(draw, many, unknowns, point)
                    self.assertTrue(keeps_all(rows, point))
                    self.assertEqual(self.assert_verdict(rows), "point")

    def test_somewhat_more_than_the_bounds_allow(self):
        draw = Draw(9)
        seen = [self.assert_verdict(drawn_rows(draw, 10, "uvwxyz", SORTS, 9999, 999)) for _ in range(20)]
        seen += [self.assert_verdict(drawn_rows(draw, 10, "uvwxyz", SORTS, 2, 1)) for _ in range(20)]
        self.assertEqual(set(seen), {"point", "clash"})


class HangsOnTheRowsAlone(VerdictTest):
    """Point 5: not on any order, nor on what was asked before."""

    def assert_same(self, rows):
        told, by_row = verdict_of(rows), points_by_row(rows)
        for other in in_other_orders(rows):
            self.assertEqual(verdict_of(other), told)
            self.assertEqual(points_by_row(other), by_row)

    def test_written_ones_in_all_orders(self):
        for rows in list(KEPT.values()) + list(CLASHES.values()):
            told, by_row = verdict_of(rows), points_by_row(rows)
            for order in itertools.islice(itertools.permutations(rows), 150):
                self.assertEqual(verdict_of(order), told)
                self.assertEqual(points_by_row(list(order)), by_row)
            self.assert_same(rows)

    def test_drawn_ones_in_other_orders(self):
        draw = Draw(10)
        for many in (3, 5, 8):
            for unknowns in UNKNOWNS:
                for top, bottom in ((1, 1), (4, 2), (999, 99)):
                    self.assert_same(drawn_rows(draw, many, unknowns, SORTS, top, bottom))

    def test_the_same_at_each_asking(self):
        asked = list(KEPT.values()) + list(CLASHES.values())
        first = [(verdict_of(rows), points_by_row(rows)) for rows in asked]
        again = [(verdict_of(rows), points_by_row(rows)) for rows in reversed(asked)]
        self.assertEqual(first, again[::-1])


class PointsByRow(VerdictTest):
    def assert_points(self, rows):
        """Look that the list goes on just as far as a point keeps all rows up to the name."""
        told = points_by_row(rows)
        self.assertIs(type(told), list)
        rising = sorted(rows, key=lambda pair: pair[0])
        self.assertLessEqual(len(told), len(rising))
        for at, pair in enumerate(told):
            self.assertIs(type(pair), tuple)
            name, point = pair
            self.assertEqual(name, rising[at][0])
            self.assertTrue(keeps_all(rising[:at + 1], point), (rows, told))
        if len(told) < len(rising):
            self.assertEqual(self.assert_verdict(rising[:len(told) + 1]), "clash")
        return len(told)

    def test_no_rows(self):
        self.assertEqual(points_by_row([]), [])
        self.assertEqual(points_by_row(()), [])

    def test_rows_that_a_point_keeps(self):
        for told, rows in KEPT.items():
            with self.subTest(told):
                self.assertEqual(self.assert_points(rows), len(rows))

    def test_as_far_as_a_point_keeps_them(self):
        two, most, least, less = (X, "is", (2, 1)), (X, "most", ONE), (X, "least", ONE), (BOTH, "below", NOUGHT)
        self.assertEqual(self.assert_points([("d", two), ("a", least), ("c", less), ("b", most)]), 3)
        self.assertEqual(self.assert_points([("b", two), ("a", most), ("c", least)]), 1)
        self.assertEqual(self.assert_points([("b", two), ("a", ({}, "is", ONE))]), 0)
        self.assertEqual(self.assert_points([("b", ({}, "is", ONE))]), 0)

    def test_it_ends_at_the_first_clash(self):
        rows = [("ab", (X, "is", ONE)), ("a", (Y, "is", ONE)), ("b", (X, "above", ONE)), ("c", ({}, "is", NOUGHT))]
        self.assertEqual([name for name, point in points_by_row(rows)], ["a", "ab"])

    def test_names_rise_as_texts(self):
        rows = [(name, (X, "least", ONE)) for name in ("b", "ab", "a", "aa", "abcdef", "ba")]
        self.assertEqual([name for name, point in points_by_row(rows)], ["a", "aa", "ab", "abcdef", "b", "ba"])
        self.assertEqual(self.assert_points(rows), 6)

    def test_drawn_rows(self):
        draw = Draw(11)
        seen = []
        for many in range(9):
            for unknowns in UNKNOWNS:
                for top, bottom in ((1, 1), (4, 2), (999, 99)):
                    rows = drawn_rows(draw, many, unknowns, SORTS, top, bottom)
                    seen.append(self.assert_points(rows) < len(rows))
        self.assertEqual(set(seen), {True, False})


class Shares(unittest.TestCase):
    """Point 10: the signs of shares; that the looker of these tests tells wrong ones."""

    def test_the_looker_of_shares(self):
        rows = [(sort, (X, sort, ONE)) for sort in SORTS]
        for sort in SORTS:
            self.assertIs(shares_fit(rows, {sort: ONE}), sort in ("is", "most", "below"))
            self.assertIs(shares_fit(rows, {sort: MINUS}), sort in ("is", "least", "above"))
            self.assertIs(shares_fit(rows, {sort: NOUGHT}), False)
        self.assertIs(shares_fit(rows, {}), True)
        self.assertIs(shares_fit(rows, {"none": ONE}), False)
        self.assertIs(shows_clash(rows, {}), False)
        self.assertIs(shows_clash(rows, {"most": ONE, "least": MINUS}), False)
        self.assertIs(shows_clash(rows, {"below": ONE, "least": MINUS}), True)

    def test_each_sign_is_told(self):
        """Each sort stands in some told clash, with its sign."""
        seen = set()
        for rows in CLASHES.values():
            shares = verdict_of(rows)[1]
            self.assertTrue(shares_fit(rows, shares))
            seen |= {(dict(rows)[name][1], shares[name][0] > 0) for name in shares}
        self.assertLessEqual({("most", True), ("below", True), ("least", False), ("above", False)}, seen)
        self.assertIn("is", {sort for sort, above in seen})


if __name__ == "__main__":
    unittest.main()
