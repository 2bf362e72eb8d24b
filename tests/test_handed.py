"""Point 2: what is handed in is neither changed nor kept, what is told is the asker's own."""

import copy
import unittest

from scopestore.equals import solved_of, stepped, steps_of
from scopestore.errors import StoreError
from scopestore.follows import follows_of
from scopestore.fractions import fraction_of, is_less, minus, over, plus, times
from scopestore.lookers import (
    fixed_holds, follows_holds, is_fraction, is_point, is_row, is_shares, is_sum, solved_holds, span_holds,
    verdict_holds,
)
from scopestore.otherwise import plain_row, row_put, row_renamed, row_times, same_row
from scopestore.rows import keeps, row_of
from scopestore.spans import fixed_of, span_of
from scopestore.sums import sum_of, sum_plus, sum_times, worth_at
from scopestore.texts import (
    fraction_text, point_text, read_fraction, read_row, read_sum, row_text, shares_text, sum_text,
)
from scopestore.verdicts import points_by_row, verdict_of

SUM = {"x": (3, 4), "y": (-2, 3)}
PAIRS = [("x", (1, 2)), ("y", (0, 1)), ("x", (1, 3)), ("z", (5, 1)), ("z", (-5, 1))]

# The same dict stands in several rows: what is told of them may not have it in common either.
KEPT = [
    ("d", (SUM, "is", (1, 1))), ("b", (SUM, "most", (2, 1))), ("c", ({}, "is", (0, 1))), ("a", (SUM, "is", (1, 1))),
    ("e", ({"z": (1, 1), "y": (2, 1)}, "is", (1, 1))), ("f", ({"x": (1, 1)}, "above", (0, 1))),
]
CLASH = [
    ("d", (SUM, "is", (1, 1))), ("b", (SUM, "above", (2, 1))), ("c", ({}, "is", (0, 1))), ("a", (SUM, "is", (2, 1))),
]
STEPS = [("times", "d", (2, 1)), ("add", "a", "d", (0, 1)), ("add", "d", "a", (-1, 3))]
ROW_CALLS = tuple(
    (call, (kind(rows),))
    for call in (solved_of, steps_of, verdict_of, points_by_row)
    for rows in ([], KEPT, CLASH, CLASH[:2], KEPT[4:])
    for kind in (list, tuple)
)
STRICT = [("b", (SUM, "below", (2, 1))), ("a", (SUM, "above", (1, 1))), ("c", ({}, "is", (0, 1)))]
ASKED_CALLS = tuple(
    (call, (kind(rows), one))
    for call in (span_of, fixed_of)
    for rows in ([], KEPT, STRICT, KEPT[4:])
    for one in ({}, SUM, {"y": (1, 1), "x": (1, 1)}, {"new": (1, 1)})
    for kind in (list, tuple)
) + tuple(
    (follows_of, (kind(rows), (one, sort, bound)))
    for rows in ([], KEPT, STRICT)
    for one in ({}, SUM, {"y": (1, 1)}, {"new": (1, 1)})
    for sort, bound in (("is", (1, 1)), ("most", (2, 1)), ("above", (1, 1)), ("least", (0, 1)), ("is", (0, 1)))
    for kind in (list, tuple)
)
ROWS_OTHERWISE = ((SUM, "most", (1, 1)), ({}, "is", (0, 1)), ({"y": (-1, 1), "x": (2, 1)}, "above", (0, 1)))
OTHERWISE_CALLS = tuple(
    call
    for row in ROWS_OTHERWISE
    for call in (
        (row_times, (row, (1, 1))),
        (row_times, (row, (-3, 7))),
        (row_put, (row, "x", {"x": (1, 1)}, (0, 1))),
        (row_put, (row, "x", {"z": (1, 1), "y": (2, 1)}, (5, 1))),
        (row_put, (row, "q", SUM, (5, 1))),
        (row_put, (row, "x", {}, (0, 1))),
        (row_renamed, (row, {})),
        (row_renamed, (row, {"x": "y", "y": "x", "q": "x"})),
        (plain_row, (row,)),
    )
) + (
    (plain_row, (({"x": (1, 1)}, "is", (2, 1)),)),
    (read_sum, ("0",)),
    (read_sum, ("-3/4 x + y",)),
    (read_row, ("0 is 0",)),
    (read_row, ("x + y most 1/2",)),
)
LOOKED = (
    (1, 1), [1, 1], None, SUM, [SUM], {"x": [1, 1]}, (SUM, "is", (1, 1)), {"a": (1, 1), "f": (-1, 1)},
    ("point", {"x": (4, 3)}), ("clash", {"a": (1, 1)}, {"a": SUM}), ("solved", [("x", SUM, (1, 1))]),
    ("none", {"a": (1, 1), "d": (-1, 1)}), ("free", {"x": (4, 3)}, {"x": (5, 3)}), ("fixed", (1, 1), SUM, SUM),
    ("fixed", (1, 1), {"a": (1, 1)}, {"a": (-1, 1)}), ("not", {"x": (4, 3)}),
    ("follows", [{"a": (1, 1)}, {"d": (-1, 1)}]),
    (("at", (1, 1), {"x": (4, 3)}, {"a": (-1, 1)}), ("at", (1, 1), {"x": (4, 3)}, {"d": (1, 1)})),
)
LOOKER_CALLS = tuple(
    call
    for thing in LOOKED
    for call in (
        (is_fraction, (thing,)), (is_sum, (thing,)), (is_point, (thing,)), (is_row, (thing,)),
        (is_shares, (KEPT, thing)), (solved_holds, (KEPT, thing)), (solved_holds, (CLASH, thing)),
        (verdict_holds, (KEPT, thing)), (verdict_holds, (tuple(CLASH), thing)), (span_holds, (KEPT, SUM, thing)),
        (fixed_holds, (KEPT, SUM, thing)), (fixed_holds, (CLASH, SUM, thing)),
        (follows_holds, (KEPT, (SUM, "is", (1, 1)), thing)),
    )
)
TEXT_CALLS = (
    (fraction_text, ((-3, 4),)),
    (sum_text, (SUM,)),
    (row_text, ((SUM, "is", (1, 2)),)),
    (point_text, ({"y": (0, 1), "x": (1, 2)},)),
    (shares_text, ({"b": (1, 1), "a": (-1, 2)},)),
    (read_fraction, ("-3/4",)),
    (same_row, ((SUM, "is", (1, 2)), (SUM, "most", (1, 2)))),
    (same_row, ((SUM, "is", (1, 2)), ({}, "most", (1, 2)))),
)

# Each call, with what is handed in: a told dict is often alike a handed one here.
MADE_CALLS = (
    (sum_of, (PAIRS,)),
    (sum_of, (tuple(PAIRS),)),
    (sum_of, ([],)),
    (sum_of, ((),)),
    (sum_plus, (SUM, {"x": (1, 4), "z": (1, 1)})),
    (sum_plus, (SUM, {})),
    (sum_plus, ({}, SUM)),
    (sum_plus, ({}, {})),
    (sum_plus, (SUM, {"x": (-3, 4), "y": (2, 3)})),
    (sum_times, (SUM, (1, 1))),
    (sum_times, (SUM, (-4, 3))),
    (sum_times, (SUM, (0, 1))),
    (sum_times, ({}, (1, 1))),
    (row_of, (SUM, "is", (1, 1))),
    (row_of, ({}, "most", (0, 1))),
    (stepped, (KEPT, STEPS)),
    (stepped, (tuple(CLASH), tuple(STEPS))),
    (stepped, (KEPT, [])),
    (stepped, (KEPT, [("add", "c", "d", (1, 1))])),
    (stepped, ([], ())),
) + ROW_CALLS + ASKED_CALLS + OTHERWISE_CALLS
OTHER_CALLS = (
    (fraction_of, (6, -8)),
    (plus, ((1, 2), (1, 3))),
    (minus, ((1, 2), (1, 3))),
    (times, ((1, 2), (1, 3))),
    (over, ((1, 2), (1, 3))),
    (is_less, ((1, 2), (1, 3))),
    (worth_at, (SUM, {"x": (1, 3), "u": (0, 1)})),
    (worth_at, (SUM, {})),
    (worth_at, ({}, {"x": (1, 3)})),
    (keeps, ((SUM, "most", (1, 1)), {"x": (1, 3), "u": (0, 1)})),
    (keeps, (({}, "above", (0, 1)), {})),
) + LOOKER_CALLS + TEXT_CALLS
REFUSED_CALLS = (
    (row_of, ({"x": (1, 1), "y": [1, 1]}, ["is"], [1, 1])),
    (row_of, ({"x": (1, 1)}, {"is": 1}, (0, 1))),
    (row_of, ([("x", (1, 1))], "is", (0, 1))),
    (stepped, (KEPT, STEPS + [["times", "d", (1, 1)]])),
    (stepped, (KEPT, STEPS + [("times", ["d"], [1, 1])])),
    (stepped, (KEPT, STEPS + [("times", "b", (1, 1))])),
    (span_of, (CLASH, SUM)),
    (fixed_of, (tuple(CLASH), {})),
    (follows_of, (CLASH, (SUM, "is", (1, 1)))),
    (row_times, ((SUM, "is", (1, 1)), (0, 1))),
    (row_renamed, ((SUM, "is", (1, 1)), {"x": "y"})),
    (read_fraction, ("2/4",)),
    (read_sum, ("y + x",)),
    (read_row, ("x is",)),
)


def ordered(thing):
    """Tell a thing such that even the order of a dict in it can be compared."""
    return repr(thing)


def fresh(thing):
    """Tell a thing made anew, such that no list or dict stands in it at two places."""
    if isinstance(thing, dict):
        return {key: fresh(thing[key]) for key in thing}
    if isinstance(thing, (list, tuple)):
        return type(thing)(fresh(part) for part in thing)
    return thing


def places(thing):
    """Tell each list and dict within a thing, from the outside in."""
    told = [thing] if isinstance(thing, (list, dict)) else []
    if isinstance(thing, (list, tuple, dict)):
        for part in thing.values() if isinstance(thing, dict) else thing:
            told += places(part)
    return told


def spoil(thing):
    """Change a list or a dict beyond recognition."""
    thing.clear()
    if isinstance(thing, dict):
        thing["spoilt"] = (99, 1)
    else:
        thing.append(("spoilt", (99, 1)))


class Handed(unittest.TestCase):
    def at_each(self, calls, look):
        for call, handed in calls:
            with self.subTest(call=call.__name__, handed=handed):
                look(call, handed)

    def test_what_is_handed_in_is_unchanged(self):
        self.at_each(MADE_CALLS + OTHER_CALLS, self.look_that_handed_is_unchanged)

    def look_that_handed_is_unchanged(self, call, handed):
        own = copy.deepcopy(handed)
        call(*own)
        self.assertEqual(ordered(own), ordered(handed))

    def test_what_is_refused_is_unchanged(self):
        self.at_each(REFUSED_CALLS, self.look_that_refused_is_unchanged)

    def look_that_refused_is_unchanged(self, call, handed):
        own = copy.deepcopy(handed)
        self.assertRaises(StoreError, call, *own)
        self.assertEqual(ordered(own), ordered(handed))

    def test_what_is_told_stands_nowhere_else(self):
        self.at_each(MADE_CALLS, self.look_that_told_stands_nowhere_else)

    def look_that_told_stands_nowhere_else(self, call, handed):
        own = copy.deepcopy(handed)
        first, second = call(*own), call(*own)
        told = places(first) + places(second)
        self.assertTrue(told)
        self.assertEqual(len({id(place) for place in told}), len(told))
        self.assertFalse({id(place) for place in told} & {id(place) for place in places(own)})

    def test_what_is_told_is_the_askers_own(self):
        self.at_each(MADE_CALLS, self.look_that_told_is_own)

    def look_that_told_is_own(self, call, handed):
        """Spoil each place of what is told, one at a time."""
        own = copy.deepcopy(handed)
        as_told = fresh(call(*own))
        for at in range(len(places(as_told))):
            told, beside, wanted = call(*own), call(*own), fresh(as_told)
            spoil(places(told)[at])
            spoil(places(wanted)[at])
            self.assertEqual(told, wanted)
            self.assertEqual(beside, as_told)
            self.assertEqual(ordered(own), ordered(handed))
            self.assertEqual(call(*own), as_told)

    def test_what_is_handed_in_is_not_kept(self):
        self.at_each(MADE_CALLS + OTHER_CALLS, self.look_that_handed_is_not_kept)

    def look_that_handed_is_not_kept(self, call, handed):
        """Spoil each place of what was handed in, one at a time, and behind that all of it."""
        for at in range(len(places(handed))):
            own = fresh(handed)
            told = call(*own)
            as_told = fresh(told)
            spoil(places(own)[at])
            self.assertEqual(told, as_told)
            for place in places(own):
                spoil(place)
            self.assertEqual(told, as_told)
            self.assertEqual(call(*copy.deepcopy(handed)), as_told)


if __name__ == "__main__":
    unittest.main()
