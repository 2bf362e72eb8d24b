"""Points 11 and 12: rows of the sort is, solved, and the steps that lead there."""

import itertools
import unittest
from fractions import Fraction

from looking import (
    LONGER, NO_FRACTIONS, Draw, added, drawn_rows, expected_lines, fraction_fits, in_other_orders, made_by, name_fits,
    pair_of, parts, row_fits, shares_fit, sum_fits,
)
from scopestore.equals import solved_of, stepped, steps_of
from scopestore.errors import NoStep

NOUGHT = (0, 1)
ONE = (1, 1)
X = {"x": ONE}
Y = {"y": ONE}
OTHERS = [
    ("m", (X, "most", (1, 1))), ("n", (Y, "below", (2, 1))), ("l", (X, "least", (3, 1))), ("q", ({}, "above", ONE)),
]


def equals(*rows):
    """Tell rows "is", named by their places, of sums and bounds."""
    return [("abcdefgh"[at], (one, "is", bound)) for at, (one, bound) in enumerate(rows)]


class SolvedTest(unittest.TestCase):
    def assert_none(self, rows, told):
        """Look that a told answer shows that no point keeps the rows "is"."""
        self.assertIs(type(told), tuple)
        self.assertEqual(len(told), 2)
        self.assertEqual(told[0], "none")
        own = [(name, row) for name, row in rows if row[1] == "is"]
        self.assertTrue(shares_fit(own, told[1]), told)
        made, bound, strict = made_by(own, told[1])
        self.assertEqual(made, {})
        self.assertLess(bound, 0)

    def assert_lines_fit(self, lines):
        self.assertIs(type(lines), list)
        leads = [line[0] for line in lines]
        self.assertEqual(leads, sorted(set(leads)))
        for line in lines:
            self.assertIs(type(line), tuple)
            lead, one, number = line
            self.assertTrue(name_fits(lead) and sum_fits(one) and fraction_fits(number), line)
            self.assertTrue(all(key > lead and key not in leads for key in one), line)

    def assert_solved(self, rows):
        """Look through what is told, and that it doesn't hang on the order of anything."""
        told = solved_of(rows)
        lines = expected_lines(rows)
        if lines is None:
            self.assert_none(rows, told)
        else:
            self.assertEqual(told, ("solved", lines))
            self.assert_lines_fit(told[1])
        for other in in_other_orders(rows):
            self.assertEqual(solved_of(other), told)
        return told[0]


class SolvedOf(SolvedTest):
    def test_no_rows(self):
        self.assertEqual(solved_of([]), ("solved", []))
        self.assertEqual(solved_of(()), ("solved", []))

    def test_rows_of_other_sorts_alone(self):
        self.assertEqual(solved_of(OTHERS), ("solved", []))
        self.assertEqual(solved_of(tuple(OTHERS)), ("solved", []))

    def test_other_sorts_are_left_out(self):
        rows = [("c", ({"x": (2, 1), "y": (4, 1)}, "is", (3, 1)))]
        lines = [("x", {"y": (-2, 1)}, (3, 2))]
        self.assertEqual(solved_of(rows), ("solved", lines))
        self.assertEqual(solved_of(OTHERS + rows), ("solved", lines))
        self.assertEqual(solved_of(rows + OTHERS), ("solved", lines))

    def test_all_some_or_none_are_fixed(self):
        both = {"x": ONE, "y": ONE}
        less = {"x": ONE, "y": (-1, 1)}
        self.assertEqual(
            solved_of(equals((both, (3, 1)), (less, (1, 2)))),
            ("solved", [("x", {}, (7, 4)), ("y", {}, (5, 4))]),
        )
        self.assertEqual(
            solved_of(equals(({"z": (3, 1), "x": (2, 1)}, (1, 1)), ({"y": (4, 1)}, (-2, 1)))),
            ("solved", [("x", {"z": (-3, 2)}, (1, 2)), ("y", {}, (-1, 2))]),
        )
        self.assertEqual(solved_of(equals((both, (3, 1)))), ("solved", [("x", {"y": (-1, 1)}, (3, 1))]))

    def test_the_same_twice(self):
        rows = equals((X, (3, 1)), (X, (3, 1)), ({"x": (-2, 1)}, (-6, 1)))
        self.assertEqual(solved_of(rows), ("solved", [("x", {}, (3, 1))]))

    def test_rows_made_of_others(self):
        rows = equals(
            ({"x": ONE, "y": ONE}, (3, 1)), ({"y": ONE, "z": ONE}, (5, 1)), ({"x": ONE, "z": (-1, 1)}, (-2, 1)),
        )
        lines = [("x", {"z": ONE}, (-2, 1)), ("y", {"z": (-1, 1)}, (5, 1))]
        for order in itertools.permutations(rows):
            self.assertEqual(solved_of(order), ("solved", lines))

    def test_unknowns_rise_as_texts(self):
        rows = equals(({"b": ONE, "aa": ONE, "a": ONE}, (1, 1)), ({"ab": ONE, "aaa": (2, 1)}, (4, 1)))
        lines = [("a", {"aa": (-1, 1), "b": (-1, 1)}, (1, 1)), ("aaa", {"ab": (-1, 2)}, (2, 1))]
        self.assertEqual(solved_of(rows), ("solved", lines))

    def test_rows_that_say_nothing(self):
        self.assertEqual(solved_of(equals(({}, NOUGHT))), ("solved", []))
        self.assertEqual(solved_of(equals(({}, NOUGHT), (X, NOUGHT))), ("solved", [("x", {}, NOUGHT)]))

    def test_a_row_that_no_point_keeps(self):
        for bound in ((1, 9), (-1, 9), (999, 1), (-999, 1)):
            for rows in (equals(({}, bound)), OTHERS + equals((X, ONE), ({}, bound), ({}, NOUGHT))):
                self.assertEqual(self.assert_solved(rows), "none")

    def test_rows_that_no_point_keeps_together(self):
        both = {"x": ONE, "y": ONE}
        for rows in (
            equals((X, (1, 1)), (X, (2, 1))),
            equals((X, (2, 1)), (X, (1, 1))),
            equals((X, (1, 1)), ({"x": (-2, 1)}, (3, 1))),
            equals((both, (3, 1)), (X, (1, 1)), (Y, (1, 1))),
            equals((X, (1, 1)), (Y, (1, 1)), (both, (3, 1)), ({"z": ONE}, (1, 1))),
            OTHERS + equals((both, (1, 3)), (both, (1, 2)), (X, (1, 1))),
        ):
            self.assertEqual(self.assert_solved(rows), "none")

    def test_drawn_rows(self):
        draw = Draw(1)
        seen = []
        for many in range(9):
            for unknowns in ("x", "xy", "xyz", ("b", "aa", "a", "zz")):
                for top, bottom in ((1, 1), (2, 1), (3, 2), (999, 99)):
                    for sorts in (("is",), ("is", "is", "most", "above")):
                        seen.append(self.assert_solved(drawn_rows(draw, many, unknowns, sorts, top, bottom)))
        self.assertGreater(seen.count("solved"), 50)
        self.assertGreater(seen.count("none"), 50)

    def test_drawn_rows_that_a_point_keeps(self):
        draw = Draw(2)
        for many in range(1, 9):
            for unknowns in ("xy", "xyz", "wxyz"):
                point = {unknown: Fraction(*draw.fraction(9, 9)) for unknown in unknowns}
                rows = []
                for name, (one, sort, _) in drawn_rows(draw, many, unknowns, ("is",), 9, 9):
                    rows.append((name, (one, sort, pair_of(sum(Fraction(*one[key]) * point[key] for key in one)))))
                self.assertEqual(self.assert_solved(rows), "solved")

    def test_the_same_at_each_asking(self):
        draw = Draw(3)
        asked = [drawn_rows(draw, 5, "wxyz", ("is",), 2, 1) for _ in range(20)]
        first = [(solved_of(rows), steps_of(rows)) for rows in asked]
        again = [(solved_of(rows), steps_of(rows)) for rows in reversed(asked)]
        self.assertEqual(first, again[::-1])


class Stepped(unittest.TestCase):
    ROWS = [
        ("c", ({"x": (2, 1), "y": ONE}, "is", (5, 1))),
        ("m", (X, "most", (1, 1))),
        ("a", ({"y": (1, 3)}, "is", (-1, 2))),
        ("b", ({}, "is", (7, 1))),
    ]

    def test_no_steps(self):
        rising = [self.ROWS[2], self.ROWS[3], self.ROWS[0]]
        for kind in (list, tuple):
            told = stepped(kind(self.ROWS), kind(()))
            self.assertIs(type(told), list)
            self.assertEqual(told, rising)
            self.assertTrue(all(type(pair) is tuple and row_fits(pair[1]) for pair in told))
        self.assertEqual(stepped([], []), [])
        self.assertEqual(stepped(OTHERS, ()), [])

    def test_both_kinds(self):
        rest = [("b", ({}, "is", (7, 1))), self.ROWS[0]]
        self.assertEqual(
            stepped(self.ROWS, [("times", "a", (-3, 2))]), [("a", ({"y": (-1, 2)}, "is", (3, 4)))] + rest
        )
        self.assertEqual(
            stepped(self.ROWS, (("add", "a", "c", (-1, 3)),)), [("a", ({"x": (-2, 3)}, "is", (-13, 6)))] + rest
        )
        self.assertEqual(
            stepped(self.ROWS, [("add", "a", "b", (2, 1))]), [("a", ({"y": (1, 3)}, "is", (27, 2)))] + rest
        )

    def test_an_add_of_nought_times(self):
        self.assertEqual(stepped(self.ROWS, [("add", "a", "c", NOUGHT)]), stepped(self.ROWS, []))

    def test_the_first_one_is_done_first(self):
        steps = [("times", "a", (2, 1)), ("add", "c", "a", (1, 1)), ("times", "a", (2, 1)), ("add", "a", "c", (3, 1))]
        self.assertEqual(stepped(self.ROWS, steps), [
            ("a", ({"x": (6, 1), "y": (19, 3)}, "is", (10, 1))),
            ("b", ({}, "is", (7, 1))),
            ("c", ({"x": (2, 1), "y": (5, 3)}, "is", (4, 1))),
        ])

    def test_the_same_of_other_orders(self):
        steps = [("times", "a", (2, 1)), ("add", "c", "a", (1, 1))]
        for rows in in_other_orders(self.ROWS):
            self.assertEqual(stepped(rows, tuple(steps)), stepped(self.ROWS, steps))

    def test_two_hundred_steps(self):
        draw = Draw(4)
        for top, bottom in ((3, 2), (LONGER, LONGER)):
            steps = []
            while len(steps) < 200:
                name, other = draw.shuffled("abc")[:2]
                number = pair_of(Fraction(draw.number(-top, top), draw.number(1, bottom)))
                steps.append(("add", name, other, number))
                if len(steps) < 200 and number[0] != 0:
                    steps.append(("times", other, pair_of(1 / Fraction(*number))))
            self.assert_as_reckoned(steps)

    def test_steps_leave_the_solution_as_it_is(self):
        """What is told may be handed in again, however many figures it has."""
        draw = Draw(12)
        rows = equals(({"x": ONE, "y": (3, 2), "z": ONE}, ONE), ({"y": (-2, 7), "z": ONE}, (5, 9)), (Y, (999, 98)))
        here = rows
        for _ in range(60):
            name, other = draw.shuffled("abc")[:2]
            number = pair_of(Fraction(draw.number(1, LONGER), draw.number(1, LONGER)))
            here = stepped(here, [("add", name, other, number), ("times", name, number)])
        self.assertGreater(here[0][1][2][1], 10**300)
        self.assertEqual(solved_of(here), solved_of(rows))

    def assert_as_reckoned(self, steps):
        here = {name: parts(row[0], row[2]) for name, row in self.ROWS if row[1] == "is"}
        for step in steps:
            number = Fraction(*step[-1])
            if step[0] == "times":
                here[step[1]] = added({None: Fraction(0)}, here[step[1]], number)
            else:
                here[step[1]] = added(here[step[1]], here[step[2]], number)
        told = stepped(self.ROWS, steps)
        self.assertTrue(all(row_fits(row) and row[1] == "is" for name, row in told))
        self.assertEqual([(name, parts(row[0], row[2])) for name, row in told], sorted(here.items()))


NO_STEPS = (
    None, True, False, 0, 1, "", "times", "add", (), [], {}, ("times",), ("add",), ("times", "a"), ("add", "a"),
    ("add", "a", "b"), ("times", "a", "b", (1, 1)), ("add", "a", (1, 1)), ("times", "a", (1, 1), (1, 1)),
    ("add", "a", "b", (1, 1), (1, 1)), ("times", "a", (1, 1), None), ("times", "a", 1, 1),
    ["times", "a", (1, 1)], ["add", "a", "b", (1, 1)], [("times", "a", (1, 1))], (("times", "a", (1, 1)),),
    {"times": "a"}, {"times": 1, "a": 2, (1, 1): 3},
    ("Times", "a", (1, 1)), ("time", "a", (1, 1)), ("", "a", (1, 1)), ("is", "a", (1, 1)), ("times ", "a", (1, 1)),
    (None, "a", (1, 1)), (1, "a", (1, 1)), (["times"], "a", (1, 1)), (("times",), "a", (1, 1)),
    ("plus", "a", "b", (1, 1)), ("Add", "a", "b", (1, 1)), ("swap", "a", "b"), ("swap", "a", "b", (1, 1)),
    (None, "a", "b", (1, 1)), (["add"], "a", "b", (1, 1)), ("times", "add", (1, 1)),
    ("times", "d", (1, 1)), ("times", "m", (1, 1)), ("times", "x", (1, 1)), ("times", "A", (1, 1)),
    ("times", "", (1, 1)), ("times", None, (1, 1)), ("times", 0, (1, 1)), ("times", True, (1, 1)),
    ("times", ("a",), (1, 1)),
    ("times", ["a"], (1, 1)), ("times", {"a": 1}, (1, 1)), ("times", ({},), (1, 1)), ("times", "a", NOUGHT),
    ("add", "d", "a", (1, 1)), ("add", "a", "d", (1, 1)), ("add", "m", "a", (1, 1)), ("add", "a", "m", (1, 1)),
    ("add", "a", "a", (1, 1)), ("add", "b", "b", NOUGHT), ("add", None, "a", (1, 1)), ("add", "a", None, (1, 1)),
    ("add", ["a"], "b", (1, 1)), ("add", "a", ["b"], (1, 1)), ("add", "a", {"b": 1}, (1, 1)), ("add", {}, "b", (1, 1)),
    ("add", "a", ("b",), (1, 1)), ("add", "d", "d", (1, 1)), ("add", "a", (1, 1), "b"), ("times", (1, 1), "a"),
)


class NoSteps(unittest.TestCase):
    ROWS = Stepped.ROWS

    def assert_no_step(self, step):
        right = [("times", "a", (2, 1)), ("add", "c", "a", (-1, 3))]
        for steps in ([step], (step,), right + [step], [step] + right, right * 90 + [step], [step] * 3):
            rows = list(self.ROWS)
            with self.assertRaises(NoStep):
                stepped(rows, steps)
            self.assertEqual(rows, self.ROWS)

    def test_what_is_no_step(self):
        for step in NO_STEPS:
            with self.subTest(step=step):
                self.assert_no_step(step)

    def test_fractions_that_are_none(self):
        for number in NO_FRACTIONS:
            with self.subTest(number=number):
                self.assert_no_step(("times", "a", number))
                self.assert_no_step(("add", "a", "b", number))

    def test_where_there_is_no_row(self):
        for rows in ([], (), OTHERS):
            for step in (("times", "a", (1, 1)), ("times", "m", (1, 1)), ("add", "m", "n", (1, 1)), None):
                with self.assertRaises(NoStep):
                    stepped(rows, [step])


class StepsOf(SolvedTest):
    def assert_steps(self, rows):
        steps = steps_of(rows)
        self.assertIs(type(steps), list)
        self.assertLessEqual(len(steps), 200)
        ends = stepped(rows, steps)
        told, found = solved_of(rows)
        if told == "none":
            self.assertTrue(any(row[0] == {} and row[2] != NOUGHT for name, row in ends))
        else:
            wanted = [
                ({key: ONE, **{other: pair_of(-Fraction(*one[other])) for other in one}}, "is", number)
                for key, one, number in found
            ]
            wanted += [({}, "is", NOUGHT)] * (len(ends) - len(wanted))
            left = [row for name, row in ends]
            for row in wanted:
                self.assertIn(row, left)
                left.remove(row)
            self.assertEqual(left, [])
        for other in in_other_orders(rows):
            self.assertEqual(steps_of(other), steps)
        return told

    def test_no_rows(self):
        self.assertEqual(stepped([], steps_of([])), [])
        self.assertEqual(stepped(OTHERS, steps_of(OTHERS)), [])

    def test_written_ones(self):
        both = {"x": ONE, "y": ONE}
        for rows in (
            equals((X, ONE)), equals(({"x": (2, 3)}, ONE)), equals(({}, NOUGHT)), equals(({}, ONE)),
            equals((X, ONE), (X, ONE)), equals((X, ONE), (X, (2, 1))), equals((Y, ONE), (X, ONE), (both, (2, 1))),
            equals((Y, ONE), (X, ONE), (both, (3, 1))), OTHERS + equals((both, ONE), (Y, (1, 2))),
        ):
            self.assert_steps(rows)

    def test_drawn_rows(self):
        draw = Draw(5)
        seen = []
        for many in range(9):
            for unknowns in ("x", "xy", "xyz", ("b", "aa", "a", "zz")):
                for top, bottom in ((1, 1), (2, 1), (3, 2), (999, 99)):
                    for sorts in (("is",), ("is", "is", "least", "below")):
                        seen.append(self.assert_steps(drawn_rows(draw, many, unknowns, sorts, top, bottom)))
        self.assertGreater(seen.count("solved"), 50)
        self.assertGreater(seen.count("none"), 50)


if __name__ == "__main__":
    unittest.main()
