"""Point 24: the lookers, beside lookers that reckon in Python's own fractions."""

import copy
import unittest
from fractions import Fraction

from looking import (
    NO_FRACTIONS, SORTS, Draw, drawn_rows, drawn_rows_at, drawn_sum, fixed_right, follows_right, fraction_fits,
    in_other_orders, pair_of, point_fits, row_fits, shares_fit, solved_right, span_right, sum_fits, verdict_right,
)
from scopestore.equals import solved_of
from scopestore.follows import follows_of
from scopestore.lookers import (
    fixed_holds, follows_holds, is_fraction, is_point, is_row, is_shares, is_sum, solved_holds, span_holds,
    verdict_holds,
)
from scopestore.spans import fixed_of, span_of
from scopestore.verdicts import verdict_of

NOUGHT = (0, 1)
ONE = (1, 1)
TWO = (2, 1)
THREE = (3, 1)
MINUS = (-1, 1)
X = {"x": ONE}
Y = {"y": ONE}
BOTH = {"x": ONE, "y": ONE}
APART = {"x": ONE, "y": MINUS}
# A thousand figures each.
DEEP = 10**999 + 7
DEEPER = 10**1000 - 1

ODD = (
    None, True, False, 0, 1, -1, "", "x", "point", (), [], {}, (None,), [None], ("point",), ["point", {}], {"x": None},
    ((), ()), [[], []], ({}, {}), ("at", "at"), (("at",), ("near",)), (0, 0, 0), ({}, "is"), ("point", {}, {}),
    {None: ONE}, {(): ()}, {("x",): ONE}, {1: ONE}, {True: ONE}, [[[[[[]]]]]], ((((((),),),),),),
)


def named(*rows):
    """Tell rows with names that do not rise."""
    return list(zip(("c", "a", "h", "b", "e", "g", "d", "f"), rows))


def changes(thing):
    """Tell a thing with one place changed, at any depth and in many ways."""
    yield from (None, True, "x", (), [], {}, (1, 1), {"x": (1, 1)})
    if isinstance(thing, bool) or thing is None:
        yield not thing
    elif isinstance(thing, int):
        yield from (thing + 1, thing - 1, -thing, 2 * thing, 0, str(thing), (thing,), [thing], bool(thing))
    elif isinstance(thing, str):
        yield from (thing + "x", thing[:-1], thing.upper(), "", "at", "near", "point", "free", "abcdefg")
    elif isinstance(thing, dict):
        yield from changes_of_dict(thing)
    else:
        yield from changes_of_parts(thing)


def changes_of_dict(thing):
    yield list(thing.items())
    yield from ({**thing, key: ONE} for key in ("new", "New", "", "abcdefg", None, 1, True, ("x",)))
    yield from ({**thing, "new": number} for number in (NOUGHT, MINUS, (2, 4), [1, 1], (True, 1), None))
    for key in thing:
        rest = {other: thing[other] for other in thing if other != key}
        yield rest
        yield from ({**rest, other: thing[key]} for other in ("new", "New", None, (key,)))
        yield from ({**thing, key: part} for part in changes(thing[key]))


def changes_of_parts(thing):
    kind = type(thing)
    yield list(thing) if kind is tuple else tuple(thing)
    yield thing + kind((None,))
    yield thing + kind(({},))
    yield thing + thing[-1:]
    yield thing[::-1]
    yield kind((thing,))
    for at in range(len(thing)):
        yield thing[:at] + thing[at + 1:]
        yield from (thing[:at] + kind((part,)) + thing[at + 1:] for part in changes(thing[at]))


class LookerTest(unittest.TestCase):
    def assert_told(self, wanted, looker, *handed):
        """Look that a looker tells just True or just False, and changes nothing that it is handed."""
        own = copy.deepcopy(handed)
        self.assertIs(looker(*own), wanted, (looker.__name__, handed))
        self.assertEqual(repr(own), repr(handed))


class Kinds(LookerTest):
    """is_fraction, is_sum, is_point, is_row."""

    FRACTIONS = (
        NOUGHT, ONE, MINUS, (3, 4), (-3, 4), (999, 98), (DEEP, 1), (-DEEP, 1), (1, DEEP), (DEEPER, 10**999),
        (-DEEPER, 10**999), (10**999, DEEPER),
    )
    LONG_NO_FRACTIONS = (
        (DEEP, DEEP), (2 * DEEP, 2), (0, DEEP), (DEEP, -1), (DEEP, 0), (6 * DEEP // 6 * 3, 9), (10**999, 5 * 10**998),
    )
    NO_KEYS = ("", "abcdefg", "X", "x y", "x1", "x\n", "\u00e9", None, True, 0, 1, (), ("x",), ("x", ("y",)))
    MANY = {"a" + letter: pair_of(Fraction(at + 1, 7)) for at, letter in enumerate("abcdefghijklmnopqrstuvwxyz")}
    ROW = ({"x": (3, 4), "y": MINUS}, "most", (1, 2))

    def test_fractions(self):
        for thing in self.FRACTIONS:
            self.assert_told(True, is_fraction, thing)
        for thing in NO_FRACTIONS + self.LONG_NO_FRACTIONS + ODD:
            self.assert_told(False, is_fraction, thing)

    def test_sums_and_points(self):
        for thing in ({}, X, {"x": (3, 4), "abcdef": MINUS}, self.MANY, {"x": (DEEP, 1), "y": (-DEEPER, 10**999)}):
            self.assert_told(True, is_sum, thing)
            self.assert_told(True, is_point, thing)
        for number in self.FRACTIONS:
            for thing in ({"x": number}, {"x": ONE, "y": number}, {**self.MANY, "x": number}):
                self.assert_told(number != NOUGHT, is_sum, thing)
                self.assert_told(True, is_point, thing)

    def test_no_sums_and_no_points(self):
        things = [thing for thing in ODD if thing != {}]
        things += [[("x", ONE)], (("x", ONE),), ["x"], ("x",), [{}], ({},), "{}"]
        things += [{key: ONE} for key in self.NO_KEYS] + [{"x": ONE, key: ONE} for key in self.NO_KEYS]
        for number in NO_FRACTIONS + self.LONG_NO_FRACTIONS:
            things += [{"x": number}, {"x": ONE, "y": number}, {**self.MANY, "x": number}]
        for thing in things:
            self.assert_told(False, is_sum, thing)
            self.assert_told(False, is_point, thing)

    def test_rows(self):
        for sort in SORTS:
            for one in ({}, X, BOTH, self.MANY, {"is": (DEEP, 1)}):
                for bound in self.FRACTIONS:
                    self.assert_told(True, is_row, (one, sort, bound))

    def test_no_rows(self):
        for thing in ODD:
            self.assert_told(False, is_row, thing)
            self.assert_told(False, is_row, (X, thing, ONE))
            self.assert_told(False, is_row, (X, "is", thing))
            self.assert_told(thing == {}, is_row, (thing, "is", ONE))
        for number in NO_FRACTIONS + self.LONG_NO_FRACTIONS:
            self.assert_told(False, is_row, ({}, "is", number))
            self.assert_told(False, is_row, ({"x": number}, "is", ONE))
        for sort in ("IS", "i", "is ", "equal", ["is"], ("is",), {"is": 1}):
            self.assert_told(False, is_row, (X, sort, ONE))
        self.assert_told(False, is_row, ({"x": NOUGHT}, "is", ONE))
        self.assert_told(False, is_row, list(self.ROW))
        self.assert_told(False, is_row, self.ROW[:2])
        self.assert_told(False, is_row, self.ROW + (ONE,))

    def test_one_place_changed(self):
        for thing in (ONE, (-3, 4), X, {"x": (3, 4), "y": NOUGHT}, self.ROW, ({}, "is", NOUGHT)):
            for other in changes(thing):
                self.assert_told(fraction_fits(other), is_fraction, other)
                self.assert_told(sum_fits(other), is_sum, other)
                self.assert_told(point_fits(other), is_point, other)
                self.assert_told(row_fits(other), is_row, other)


class Shares(LookerTest):
    ROWS = [(sort, (BOTH, sort, ONE)) for sort in SORTS]
    SIGNS = {"is": (1, -1), "most": (1,), "below": (1,), "least": (-1,), "above": (-1,)}

    def test_signs(self):
        for sort in SORTS:
            for number in (ONE, (3, 4), (DEEP, 1), (1, DEEP)):
                for sign in (1, -1):
                    share = {sort: (sign * number[0], number[1])}
                    self.assert_told(sign in self.SIGNS[sort], is_shares, self.ROWS, share)
                    share = {"most": ONE, **share, "least": MINUS} if sort not in ("most", "least") else share
                    self.assert_told(sign in self.SIGNS[sort], is_shares, self.ROWS, share)

    def test_none_and_all(self):
        self.assert_told(True, is_shares, self.ROWS, {})
        self.assert_told(True, is_shares, [], {})
        right = {"is": MINUS, "most": ONE, "least": MINUS, "below": (1, 9), "above": (-1, 9)}
        self.assert_told(True, is_shares, self.ROWS, right)
        for rows in in_other_orders(self.ROWS):
            self.assert_told(True, is_shares, rows, right)
        self.assert_told(False, is_shares, self.ROWS[1:], right)

    def test_wrong_ones(self):
        self.assert_told(False, is_shares, [], {"is": ONE})
        for name in ("x", "y", "isis", "", "IS", None, 1, True, ("is",)):
            self.assert_told(False, is_shares, self.ROWS, {name: ONE})
            self.assert_told(False, is_shares, self.ROWS, {"is": ONE, name: ONE})
        for number in NO_FRACTIONS + (NOUGHT,):
            for sort in SORTS:
                self.assert_told(False, is_shares, self.ROWS, {sort: number})
        for thing in ODD:
            self.assert_told(thing == {}, is_shares, self.ROWS, thing)
        for thing in ([("is", ONE)], (("is", ONE),), ["is"]):
            self.assert_told(False, is_shares, self.ROWS, thing)

    def test_one_place_changed(self):
        for thing in changes({"is": MINUS, "most": (2, 3), "above": MINUS}):
            self.assert_told(shares_fit(self.ROWS, thing), is_shares, self.ROWS, thing)


KEPT = {
    "one is": named((BOTH, "is", THREE)),
    "is": named((BOTH, "is", THREE), (APART, "is", ONE)),
    "held": named((X, "least", ONE), (X, "most", TWO), (Y, "is", NOUGHT)),
    "strict": named((X, "above", ONE), (X, "below", TWO), (BOTH, "most", THREE)),
    "corner": named((BOTH, "most", TWO), (X, "least", ONE), (Y, "least", ONE)),
    "one side": named((X, "below", ONE), (Y, "above", TWO), ({}, "most", NOUGHT)),
    "nothing": [],
}
CLASHES = {
    "is": named((X, "is", ONE), (X, "is", TWO), (Y, "is", ONE)),
    "strict": named((BOTH, "below", TWO), (X, "least", ONE), (Y, "least", ONE), (X, "most", ONE)),
    "no unknowns": named(({}, "is", ONE), (X, "least", ONE)),
    "apart": named((X, "most", ONE), (X, "least", TWO), (Y, "is", TWO)),
}
ROWS = {**KEPT, **{f"no point, {told}": CLASHES[told] for told in CLASHES}}
ONES = ({}, X, Y, BOTH, APART, {"new": MINUS})
ASKED = [(one, sort, bound) for one in ({}, X, BOTH) for sort in SORTS for bound in (ONE, TWO)]


def has_point(rows):
    """Tell whether some point keeps the rows, by an answer that is looked through."""
    told = verdict_of(rows)
    assert verdict_right(rows, told)
    return told[0] == "point"


class AnswerTest(LookerTest):
    def assert_like(self, right, looker, rows, *handed):
        """Look that a looker tells what the looker of these tests tells, and tell that."""
        wanted = right(rows, *handed)
        if len(handed) == 2:
            wanted = wanted and has_point(rows)
        self.assert_told(bool(wanted), looker, rows, *handed)
        return bool(wanted)

    def assert_changed(self, right, looker, rows, *handed, most=4000):
        """Look at what is told with each place changed, and that nearly all of that is wrong."""
        *asked, thing = handed
        self.assertTrue(self.assert_like(right, looker, rows, *handed))
        seen = []
        for at, other in enumerate(changes(thing)):
            if at < most:
                seen.append(self.assert_like(right, looker, rows, *asked, other))
        self.assertGreater(seen.count(False), seen.count(True))

    def assert_odd(self, looker, rows, *asked):
        for thing in ODD:
            self.assert_told(False, looker, rows, *asked, thing)


class SolvedHolds(AnswerTest):
    def test_what_is_told(self):
        draw = Draw(60)
        seen = []
        for many in range(9):
            for unknowns in ("x", "xy", "wxyz"):
                for sorts in (SORTS, ("is",)):
                    rows = drawn_rows(draw, many, unknowns, sorts, 2, 1)
                    told = solved_of(rows)
                    self.assertTrue(self.assert_like(solved_right, solved_holds, rows, told))
                    for other in in_other_orders(rows)[:4]:
                        self.assert_told(True, solved_holds, other, told)
                    seen.append(told[0])
        self.assertEqual(set(seen), {"solved", "none"})

    def test_one_place_changed(self):
        for rows in ROWS.values():
            self.assert_changed(solved_right, solved_holds, rows, solved_of(rows))

    def test_of_other_rows(self):
        for rows in ROWS.values():
            for other in ROWS.values():
                self.assert_like(solved_right, solved_holds, rows, solved_of(other))

    def test_shares_some_times(self):
        rows = CLASHES["is"]
        shares = solved_of(rows)[1]
        for number in (Fraction(2), Fraction(1, 9), Fraction(DEEP), Fraction(1, DEEP), Fraction(-1), Fraction(0)):
            more = {name: pair_of(Fraction(*shares[name]) * number) for name in shares}
            self.assert_told(number > 0, solved_holds, rows, ("none", more))

    def test_shares_of_other_sorts(self):
        rows = named((X, "most", ONE), (X, "least", TWO), (Y, "is", ONE))
        self.assert_told(False, solved_holds, rows, ("none", {"c": ONE, "a": MINUS}))
        self.assert_told(True, solved_holds, rows, ("solved", [("y", {}, ONE)]))
        self.assert_told(False, solved_holds, rows, ("none", {}))

    def test_a_list_that_is_not_the_one(self):
        rows = named((BOTH, "is", THREE))
        self.assert_told(True, solved_holds, rows, ("solved", [("x", {"y": MINUS}, THREE)]))
        self.assert_told(False, solved_holds, rows, ("solved", [("y", {"x": MINUS}, THREE)]))
        self.assert_told(False, solved_holds, rows, ("solved", []))
        rows = KEPT["is"]
        self.assert_told(True, solved_holds, rows, ("solved", [("x", {}, TWO), ("y", {}, ONE)]))
        self.assert_told(False, solved_holds, rows, ("solved", [("y", {}, ONE), ("x", {}, TWO)]))
        self.assert_told(False, solved_holds, rows, ("solved", [("x", {"y": MINUS}, THREE), ("y", {}, ONE)]))
        self.assert_told(False, solved_holds, rows, ("solved", [("x", {}, TWO), ("y", {}, (True, True))]))
        self.assert_told(False, solved_holds, rows, ("solved", (("x", {}, TWO), ("y", {}, ONE))))

    def test_odd_things(self):
        for rows in ROWS.values():
            self.assert_odd(solved_holds, rows)


class VerdictHolds(AnswerTest):
    def test_what_is_told(self):
        draw = Draw(61)
        for many in range(9):
            for unknowns in ("x", "xy", "wxyz"):
                for top, bottom in ((2, 1), (999, 99)):
                    rows = drawn_rows(draw, many, unknowns, SORTS, top, bottom)
                    told = verdict_of(rows)
                    self.assertTrue(self.assert_like(verdict_right, verdict_holds, rows, told))
                    for other in in_other_orders(rows)[:4]:
                        self.assert_told(True, verdict_holds, other, told)

    def test_one_place_changed(self):
        for rows in ROWS.values():
            self.assert_changed(verdict_right, verdict_holds, rows, verdict_of(rows))

    def test_of_other_rows(self):
        for rows in ROWS.values():
            for other in ROWS.values():
                self.assert_like(verdict_right, verdict_holds, rows, verdict_of(other))

    def test_other_points(self):
        rows = KEPT["strict"]
        for x in ((3, 2), (101, 100), pair_of(Fraction(DEEP + 10**990, DEEP))):
            self.assert_told(True, verdict_holds, rows, ("point", {"x": x}))
            self.assert_told(True, verdict_holds, rows, ("point", {"x": x, "y": MINUS, "new": (DEEP, 1), "q": NOUGHT}))
        for x in (ONE, TWO, NOUGHT, pair_of(Fraction(DEEP - 1, DEEP)), (DEEP, 1)):
            self.assert_told(False, verdict_holds, rows, ("point", {"x": x}))
        self.assert_told(True, verdict_holds, [], ("point", {}))
        self.assert_told(True, verdict_holds, (), ("point", {"x": ONE}))
        self.assert_told(False, verdict_holds, [], ("clash", {}, {}))

    def test_a_clash_some_times(self):
        for rows in CLASHES.values():
            word, shares, points = verdict_of(rows)
            for number in (Fraction(2), Fraction(1, DEEP), Fraction(DEEP), Fraction(-1)):
                more = {name: pair_of(Fraction(*shares[name]) * number) for name in shares}
                self.assert_told(number > 0, verdict_holds, rows, (word, more, points))
            more = {name: {**points[name], "new": (DEEP, 7)} for name in points}
            self.assert_told(True, verdict_holds, rows, (word, shares, more))

    def test_a_clash_that_can_lose_a_row(self):
        rows = named((X, "most", ONE), (X, "least", TWO), (X, "most", NOUGHT))
        shares = {"c": ONE, "a": (-2, 1), "h": ONE}
        point = {"x": ONE}
        self.assert_told(False, verdict_holds, rows, ("clash", shares, {"c": point, "a": point, "h": point}))
        self.assert_told(True, verdict_holds, rows, ("clash", {"c": ONE, "a": MINUS}, {"c": {"x": TWO}, "a": point}))
        self.assert_told(True, verdict_holds, rows, ("clash", {"h": ONE, "a": MINUS}, {"h": {"x": TWO}, "a": {}}))
        self.assert_told(False, verdict_holds, rows, ("clash", {"h": ONE, "a": MINUS}, {"h": {"x": TWO}, "c": {}}))
        self.assert_told(False, verdict_holds, rows, ("clash", {"h": ONE, "a": MINUS}, {"h": {"x": TWO}}))
        more = {"h": {"x": TWO}, "a": {}, "c": {}}
        self.assert_told(False, verdict_holds, rows, ("clash", {"h": ONE, "a": MINUS}, more))

    def test_shares_that_show_no_clash(self):
        points = {"c": {"x": TWO}, "a": {"x": MINUS}}
        for sort, bound, wanted in (
            ("below", TWO, False), ("most", TWO, False), ("below", ONE, True), ("most", ONE, False),
            ("below", NOUGHT, True), ("most", NOUGHT, True),
        ):
            rows = named((X, sort, bound), (X, "least", ONE))
            self.assert_told(wanted, verdict_holds, rows, ("clash", {"c": ONE, "a": MINUS}, points))
            self.assert_told(False, verdict_holds, rows, ("clash", {"c": ONE, "a": (-1, 2)}, points))

    def test_odd_things(self):
        for rows in ROWS.values():
            self.assert_odd(verdict_holds, rows)


class SpanHolds(AnswerTest):
    def test_what_is_told(self):
        draw = Draw(62)
        for many in range(1, 9):
            for unknowns in ("x", "xy", "wxyz"):
                point = {unknown: draw.fraction(9, 3) for unknown in unknowns}
                rows = drawn_rows_at(draw, many, unknowns, point)
                one = drawn_sum(draw, unknowns, 999, 99)
                told = span_of(rows, one)
                self.assertTrue(self.assert_like(span_right, span_holds, rows, one, told))
                for other in in_other_orders(rows)[:4]:
                    self.assert_told(True, span_holds, other, one, told)

    def test_one_place_changed(self):
        for rows in KEPT.values():
            for one in ONES[1:4]:
                self.assert_changed(span_right, span_holds, rows, one, span_of(rows, one))

    def test_of_other_rows_and_other_sums(self):
        for rows in KEPT.values():
            for one in ONES:
                told = span_of(rows, one)
                for other in ROWS.values():
                    self.assert_like(span_right, span_holds, other, one, told)
                for other in ONES:
                    self.assert_like(span_right, span_holds, rows, other, told)

    def test_other_right_answers(self):
        rows = named((X, "least", ONE), (X, "most", TWO), (X, "most", TWO), (Y, "below", ONE))
        at_one, at_two = ("at", ONE, {"x": ONE}, {"c": MINUS}), ("at", TWO, {"x": TWO, "y": (-5, 1)}, {"h": ONE})
        self.assert_told(True, span_holds, rows, X, (at_one, at_two))
        half = ("at", TWO, {"x": TWO, "new": (DEEP, 1)}, {"h": (1, 3), "a": (2, 3)})
        self.assert_told(True, span_holds, rows, X, (at_one, half))
        self.assert_told(False, span_holds, rows, X, (at_one, ("at", TWO, {"x": TWO}, {"h": (1, 3), "a": (1, 3)})))
        self.assert_told(False, span_holds, rows, X, (at_two, at_one))
        self.assert_told(False, span_holds, rows, X, [at_one, at_two])
        near = ("near", ONE, {"x": TWO, "y": ONE}, {"x": (3, 2), "y": (-DEEP, 1)}, {"b": ONE})
        for way in ({"y": MINUS}, {"y": (-DEEP, 7)}, {"y": (-1, DEEP), "x": NOUGHT, "new": ONE}):
            self.assert_told(True, span_holds, rows, Y, (("without", {"x": ONE}, way), near))
        for way in ({"y": ONE}, {"y": NOUGHT}, {}, {"y": MINUS, "x": (-1, DEEP)}, {"new": MINUS}):
            self.assert_told(False, span_holds, rows, Y, (("without", {"x": ONE}, way), near))
        self.assert_told(False, span_holds, rows, Y, (("without", {"x": THREE}, {"y": MINUS}), near))

    def test_near_and_at(self):
        rows = named((X, "below", TWO), (X, "above", ONE), (X, "most", TWO), (X, "least", ONE))
        low = ("near", ONE, {"x": ONE}, {"x": (3, 2)}, {"a": MINUS})
        for end, wanted in (
            (("near", TWO, {"x": TWO}, {"x": (3, 2)}, {"c": ONE}), True),
            (("near", TWO, {"x": TWO}, {"x": (3, 2)}, {"c": (1, 2), "h": (1, 2)}), True),
            (("near", TWO, {"x": TWO}, {"x": (3, 2)}, {"h": ONE}), False),
            (("near", TWO, {"x": TWO}, {"x": TWO}, {"c": ONE}), False),
            (("near", TWO, {"x": (3, 2)}, {"x": (3, 2)}, {"c": ONE}), False),
            (("near", (3, 2), {"x": (3, 2)}, {"x": (3, 2)}, {"c": ONE}), False),
            (("at", TWO, {"x": TWO}, {"h": ONE}), False),
            (("at", TWO, {"x": (3, 2)}, {"h": ONE}), False),
            (("at", (2, True), {"x": TWO}, {"h": ONE}), False),
        ):
            self.assert_told(wanted, span_holds, rows, X, (low, end))
        strict_only = named((X, "most", TWO), (X, "least", ONE))
        end = ("near", TWO, {"x": TWO}, {"x": (3, 2)}, {"c": ONE})
        self.assert_told(False, span_holds, strict_only, X, (("at", ONE, {"x": ONE}, {"a": MINUS}), end))

    def test_no_point(self):
        for rows in CLASHES.values():
            for one in ONES:
                for other in KEPT.values():
                    self.assert_told(False, span_holds, rows, one, span_of(other, one))

    def test_odd_things(self):
        for rows in ROWS.values():
            for one in ONES:
                self.assert_odd(span_holds, rows, one)


class FixedHolds(AnswerTest):
    def test_what_is_told(self):
        draw = Draw(63)
        seen = []
        for many in range(1, 9):
            for unknowns in ("x", "xy", "wxyz"):
                point = {unknown: draw.fraction(9, 3) for unknown in unknowns}
                rows = drawn_rows_at(draw, many, unknowns, point, 2, 1)
                for one in ({}, drawn_sum(draw, unknowns, 2, 1), rows[0][1][0]):
                    told = fixed_of(rows, one)
                    self.assertTrue(self.assert_like(fixed_right, fixed_holds, rows, one, told))
                    for other in in_other_orders(rows)[:4]:
                        self.assert_told(True, fixed_holds, other, one, told)
                    if told[0] == "free":
                        self.assert_told(True, fixed_holds, rows, one, ("free", told[2], told[1]))
                    seen.append(told[0])
        self.assertEqual(set(seen), {"fixed", "free"})

    def test_one_place_changed(self):
        for rows in KEPT.values():
            for one in ONES[:4]:
                self.assert_changed(fixed_right, fixed_holds, rows, one, fixed_of(rows, one))

    def test_of_other_rows_and_other_sums(self):
        for rows in KEPT.values():
            for one in ONES:
                told = fixed_of(rows, one)
                for other in ROWS.values():
                    self.assert_like(fixed_right, fixed_holds, other, one, told)
                for other in ONES:
                    self.assert_like(fixed_right, fixed_holds, rows, other, told)

    def test_other_right_answers(self):
        rows = named((X, "is", ONE), (X, "is", ONE), (X, "most", ONE), (Y, "above", ONE))
        for above in ({"c": ONE}, {"a": ONE}, {"h": ONE}, {"c": (DEEP, 1), "a": (1 - DEEP, 1)}):
            for under in ({"c": MINUS}, {"a": MINUS}, {"c": (-1, 2), "a": (-1, 2)}):
                self.assert_told(True, fixed_holds, rows, X, ("fixed", ONE, above, under))
                self.assert_told(False, fixed_holds, rows, X, ("fixed", ONE, under, above))
                self.assert_told(False, fixed_holds, rows, X, ("fixed", (1, True), above, under))
                self.assert_told(False, fixed_holds, rows, X, ("fixed", TWO, above, under))
        self.assert_told(True, fixed_holds, rows, Y, ("free", {"x": ONE, "y": (DEEP, 1)}, {"x": ONE, "y": TWO}))
        self.assert_told(False, fixed_holds, rows, Y, ("free", {"x": ONE, "y": TWO}, {"x": ONE, "y": TWO, "z": ONE}))
        self.assert_told(False, fixed_holds, rows, Y, ("free", {"x": ONE, "y": TWO}, {"x": ONE, "y": ONE}))
        self.assert_told(True, fixed_holds, [], X, ("free", {}, {"x": ONE}))
        self.assert_told(True, fixed_holds, [], {}, ("fixed", NOUGHT, {}, {}))

    def test_no_point(self):
        """Shares that pin a sum tell nothing where no point keeps the rows."""
        rows = CLASHES["is"]
        self.assert_told(False, fixed_holds, rows, X, ("fixed", ONE, {"c": ONE}, {"c": MINUS}))
        self.assert_told(False, fixed_holds, rows, Y, ("fixed", ONE, {"h": ONE}, {"h": MINUS}))
        for rows in CLASHES.values():
            self.assert_told(False, fixed_holds, rows, {}, ("fixed", NOUGHT, {}, {}))
            self.assert_told(False, fixed_holds, rows, X, ("free", {"x": ONE}, {"x": TWO}))

    def test_odd_things(self):
        for rows in ROWS.values():
            for one in ONES:
                self.assert_odd(fixed_holds, rows, one)


class FollowsHolds(AnswerTest):
    def test_what_is_told(self):
        draw = Draw(64)
        seen = []
        for many in range(1, 9):
            for unknowns in ("x", "xy", "wxyz"):
                point = {unknown: draw.fraction(9, 3) for unknown in unknowns}
                rows = drawn_rows_at(draw, many, unknowns, point, 2, 1)
                for row in [rows[0][1], drawn_rows(draw, 1, unknowns)[0][1], ({}, "is", NOUGHT), ({}, "is", ONE)]:
                    told = follows_of(rows, row)
                    self.assertTrue(self.assert_like(follows_right, follows_holds, rows, row, told))
                    for other in in_other_orders(rows)[:4]:
                        self.assert_told(True, follows_holds, other, row, told)
                    seen.append(told[0])
        self.assertEqual(set(seen), {"follows", "not"})

    def test_one_place_changed(self):
        for rows in KEPT.values():
            for row in ASKED[::3]:
                self.assert_changed(follows_right, follows_holds, rows, row, follows_of(rows, row))

    def test_of_other_rows(self):
        for rows in KEPT.values():
            for row in ASKED:
                told = follows_of(rows, row)
                for other in ROWS.values():
                    self.assert_like(follows_right, follows_holds, other, row, told)
                for other in ASKED:
                    self.assert_like(follows_right, follows_holds, rows, other, told)

    def test_other_right_answers(self):
        rows = named((X, "below", ONE), (X, "most", ONE), (X, "is", NOUGHT), (Y, "least", ONE))
        for shares, sort, bound, wanted in (
            ({"c": ONE}, "below", ONE, True), ({"a": ONE}, "below", ONE, False), ({"h": ONE}, "below", ONE, True),
            ({"c": (1, 2), "a": (1, 2)}, "below", ONE, True), ({"a": ONE}, "most", ONE, True),
            ({"c": ONE}, "most", (99, 100), False), ({"h": ONE}, "most", (99, 100), True),
            ({"c": TWO}, "most", TWO, False), ({"c": ONE}, "most", (DEEP, 1), True), ({}, "most", ONE, False),
        ):
            self.assert_told(wanted, follows_holds, rows, (X, sort, bound), ("follows", [shares]))
            self.assert_told(False, follows_holds, rows, (X, sort, bound), ("follows", [shares, shares]))
            self.assert_told(False, follows_holds, rows, (X, sort, bound), ("follows", (shares,)))
            self.assert_told(False, follows_holds, rows, (X, sort, bound), ("follows", shares))
        self.assert_told(True, follows_holds, rows, (Y, "above", NOUGHT), ("follows", [{"b": MINUS}]))
        self.assert_told(False, follows_holds, rows, (Y, "above", ONE), ("follows", [{"b": MINUS}]))
        self.assert_told(True, follows_holds, rows, (X, "is", NOUGHT), ("follows", [{"h": ONE}, {"h": MINUS}]))
        self.assert_told(False, follows_holds, rows, (X, "is", NOUGHT), ("follows", [{"h": MINUS}, {"h": ONE}]))
        self.assert_told(False, follows_holds, rows, (X, "is", NOUGHT), ("follows", [{"h": ONE}]))
        self.assert_told(True, follows_holds, rows, (Y, "above", ONE), ("not", {"y": ONE, "q": (DEEP, 1)}))
        self.assert_told(False, follows_holds, rows, (Y, "above", ONE), ("not", {"y": (DEEP, 1)}))
        self.assert_told(False, follows_holds, rows, (Y, "above", ONE), ("not", {}))

    def test_no_point(self):
        """Grounds tell nothing where no point keeps the rows."""
        rows = CLASHES["is"]
        self.assert_told(False, follows_holds, rows, (X, "most", ONE), ("follows", [{"c": ONE}]))
        self.assert_told(False, follows_holds, rows, (Y, "is", ONE), ("follows", [{"h": ONE}, {"h": MINUS}]))
        for rows in CLASHES.values():
            self.assert_told(False, follows_holds, rows, ({}, "is", NOUGHT), ("follows", [{}, {}]))
            self.assert_told(False, follows_holds, rows, ({}, "is", ONE), ("not", {}))

    def test_odd_things(self):
        for rows in ROWS.values():
            for row in ASKED[::5]:
                self.assert_odd(follows_holds, rows, row)


class Deep(AnswerTest):
    """Numbers of a thousand figures."""

    def test_shares_and_points(self):
        rows = named((X, "most", ONE), (X, "least", TWO), (BOTH, "is", (DEEP % 997, 97)), (Y, "below", (7, 9)))
        for at in range(20):
            deep = {name: (sign * (DEEP + at), DEEPER - 10**at) for name, sign in zip("cahb", (1, -1, 1, 1))}
            self.assert_like(verdict_right, verdict_holds, rows, ("clash", deep, {}))
            self.assert_told(shares_fit(rows, deep), is_shares, rows, deep)
            point = {"x": (DEEP + at, DEEPER - 10**at), "y": (DEEP - at, 10**at + 1)}
            point = {unknown: pair_of(Fraction(*point[unknown])) for unknown in point}
            self.assert_like(verdict_right, verdict_holds, rows[:1] + rows[2:], ("point", point))

    def test_rows_that_were_told(self):
        rows = named((X, "most", (DEEP, 10**40 + 1)), (BOTH, "is", (-DEEPER, 10**50 + 3)), (Y, "above", (1, DEEP)))
        self.assertTrue(self.assert_like(verdict_right, verdict_holds, rows, verdict_of(rows)))
        self.assertTrue(self.assert_like(span_right, span_holds, rows, X, span_of(rows, X)))
        self.assertTrue(self.assert_like(fixed_right, fixed_holds, rows, BOTH, fixed_of(rows, BOTH)))


if __name__ == "__main__":
    unittest.main()
