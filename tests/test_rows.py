"""Point 9: rows, and which points keep them."""

import unittest
from fractions import Fraction

from looking import LONG, LONGER, NO_FRACTIONS, SORTS, kept, pair_of, row_fits, worth
from scopestore.errors import NoRow
from scopestore.rows import keeps, row_of

NOUGHT = (0, 1)
SIX = {"x": (1, 1), "yy": (-3, 4), "abcdef": (999, 98), "z": (-1, 1), "is": (LONG, LONGER - 1), "zzzzzz": (1, LONG)}
SUMS = tuple({key: SIX[key] for key in list(SIX)[:many]} for many in range(7))
BOUNDS = (NOUGHT, (1, 1), (-1, 1), (3, 4), (-999, 98), (LONG, 1), (-1, LONG))

NO_SUMS = (None, True, False, 0, 1, "", "x", (), [], ("x", (1, 1)), (("x", (1, 1)),), [("x", (1, 1))], [{}], ({},))
NO_UNKNOWNS = (
    "", "abcdefg", "aaaaaaaaaaaa", "X", "xY", "Xy", "abcdeF", "x1", "1", "x y", " x", "x ", " ", "x_", "_", "-x", "x~",
    "x.", "`", "{", "@", "[", "x\n", "\n", "\u00e9", "x\u00df", "\u0430", 0, 1, -1, None, True, False, (), ("x",),
    ("x", "y"), (1, 1),
)
NO_SORTS = (
    None, True, False, 0, 1, "", "IS", "Is", "iss", "i", "is ", " is", "equal", "almost", "mos", "least most", "=", "x",
    ("is",), ["is"], ["is", "most"], ("is", "most"), {"is": 1}, {}, [], (), SORTS, list(SORTS),
)


class RowOf(unittest.TestCase):
    def assert_no_row(self, one, sort, bound):
        with self.assertRaises(NoRow):
            row_of(one, sort, bound)

    def test_right_ones_of_each_sort(self):
        for one in SUMS:
            for sort in SORTS:
                for bound in BOUNDS:
                    told = row_of(one, sort, bound)
                    self.assertTrue(row_fits(told))
                    self.assertEqual(told, (one, sort, bound))

    def test_told_as_written(self):
        self.assertEqual(row_of({}, "is", NOUGHT), ({}, "is", (0, 1)))
        self.assertEqual(row_of({"x": (1, 2)}, "above", (-3, 1)), ({"x": (1, 2)}, "above", (-3, 1)))

    def test_the_told_sum_is_a_new_dict(self):
        for one in SUMS:
            own = dict(one)
            first, second = row_of(own, "most", NOUGHT), row_of(own, "most", NOUGHT)
            first[0]["new"] = (1, 1)
            self.assertEqual(own, one)
            self.assertEqual(second[0], one)
            own["own"] = (1, 1)
            self.assertEqual(second[0], one)

    def test_a_sum_that_is_no_dict(self):
        for one in NO_SUMS:
            for sort in SORTS:
                with self.subTest(one=one, sort=sort):
                    self.assert_no_row(one, sort, NOUGHT)

    def test_a_key_that_is_no_unknown(self):
        for key in NO_UNKNOWNS:
            with self.subTest(key=key):
                self.assert_no_row({key: (1, 1)}, "is", NOUGHT)
                self.assert_no_row({"x": (1, 1), key: (1, 1)}, "most", NOUGHT)
                self.assert_no_row({key: (1, 1), "x": (1, 1)}, "least", NOUGHT)

    def test_unknowns_at_the_edges(self):
        for key in ("a", "z", "az", "aaaaaa", "zzzzzz", "abcdef", "is", "most", "abcde"):
            self.assertEqual(row_of({key: (1, 1)}, "is", NOUGHT), ({key: (1, 1)}, "is", NOUGHT))

    def test_a_value_that_is_no_fraction(self):
        for number in NO_FRACTIONS + (NOUGHT,):
            with self.subTest(number=number):
                self.assert_no_row({"x": number}, "is", NOUGHT)
                self.assert_no_row({"x": (1, 1), "y": number}, "below", NOUGHT)
                self.assert_no_row({"x": number, "y": (1, 1)}, "above", NOUGHT)

    def test_a_sort_that_is_none(self):
        for sort in NO_SORTS:
            with self.subTest(sort=sort):
                self.assert_no_row({}, sort, NOUGHT)
                self.assert_no_row({"x": (1, 1)}, sort, (1, 1))

    def test_a_bound_that_is_no_fraction(self):
        for bound in NO_FRACTIONS:
            for sort in SORTS:
                with self.subTest(bound=bound, sort=sort):
                    self.assert_no_row({}, sort, bound)
                    self.assert_no_row({"x": (1, 1)}, sort, bound)

    def test_more_than_one_thing_wrong(self):
        self.assert_no_row(None, None, None)
        self.assert_no_row([], [], [])
        self.assert_no_row({"X": (2, 4)}, "equal", (1, 0))
        self.assert_no_row({"x": (1, 1)}, ["is"], [1, 1])

    def test_what_is_refused_is_unchanged(self):
        one, sort, bound = {"x": (1, 1), "y": [1, 1]}, ["is"], [2, 4]
        self.assert_no_row(one, sort, bound)
        self.assertEqual((one, sort, bound), ({"x": (1, 1), "y": [1, 1]}, ["is"], [2, 4]))


class Keeps(unittest.TestCase):
    def test_told_as_written(self):
        one = {"x": (1, 1), "y": (-2, 1)}
        told = {"is": (False, True, False), "most": (True, True, False), "least": (False, True, True),
                "below": (True, False, False), "above": (False, False, True)}
        for sort in SORTS:
            for at, x in enumerate(((6, 1), (7, 1), (8, 1))):
                self.assertIs(keeps((one, sort, (3, 1)), {"x": x, "y": (2, 1)}), told[sort][at])

    def assert_beside_bound(self, one, point):
        """Look at bounds below, at and above the worth, by little and by much."""
        here = worth(one, point)
        for gap in (Fraction(0), Fraction(1, LONGER), Fraction(1, 99), Fraction(1), Fraction(LONGER)):
            for bound in (pair_of(here - gap), pair_of(here + gap)):
                for sort in SORTS:
                    row = (one, sort, bound)
                    self.assertIs(keeps(row, point), kept(row, point))

    def test_bounds_beside_the_worth(self):
        deep = {"x": (LONG, LONGER - 1), "yy": (-1, LONG), "abcdef": (LONGER, 1), "is": (7, 3), "zzzzzz": (-LONG, 7)}
        points = ({}, {"x": NOUGHT}, {"x": (1, 3)}, {"u": (5, 1)}, {"x": (-7, 2), "yy": (2, 3), "z": (1, 1)}, deep)
        for one in SUMS:
            for point in points:
                self.assert_beside_bound(one, point)

    def test_worths_beside_the_bound(self):
        for gap in (-LONG, Fraction(-1, LONG), 0, Fraction(1, LONG), LONG):
            point = {"x": pair_of(Fraction(5, 7) + Fraction(gap))}
            for sort in SORTS:
                row = ({"x": (1, 1)}, sort, (5, 7))
                self.assertIs(keeps(row, point), kept(row, point))

    def test_points_without_some_of_the_unknowns(self):
        one = {"x": (1, 1), "y": (1, 1)}
        self.assertIs(keeps((one, "is", (3, 1)), {"y": (3, 1)}), True)
        self.assertIs(keeps((one, "is", (3, 1)), {"y": (3, 1), "x": NOUGHT}), True)
        self.assertIs(keeps((one, "is", (3, 1)), {"z": (3, 1)}), False)
        self.assertIs(keeps((one, "above", (-1, 1)), {}), True)
        self.assertIs(keeps((one, "above", NOUGHT), {}), False)

    def test_rows_without_unknowns(self):
        told = {"is": (False, True, False), "most": (False, True, True), "least": (True, True, False),
                "below": (False, False, True), "above": (True, False, False)}
        for sort in SORTS:
            for at, bound in enumerate(((-1, 9), NOUGHT, (1, 9))):
                for point in ({}, {"x": (5, 1)}):
                    self.assertIs(keeps(({}, sort, bound), point), told[sort][at])


if __name__ == "__main__":
    unittest.main()
