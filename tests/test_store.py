"""Points 5 and 20 to 23: the store, its deeds, what is asked of it, and copies of it."""

import copy
import unittest

from looking import NO_FRACTIONS, SORTS, Draw, drawn_rows, drawn_rows_at, fixed_right, follows_right, span_right
from scopestore.errors import (
    Full, NoLevel, NoMark, NoName, NoPoint, NoRow, NothingDone, Stands, StoreError,
)
from scopestore.follows import follows_of
from scopestore.spans import fixed_of, span_of
from scopestore.store import Store
from scopestore.verdicts import verdict_of

NOUGHT = (0, 1)
ONE = (1, 1)
TWO = (2, 1)
MINUS = (-1, 1)
X = ({"x": ONE}, "least", ONE)
Y = ({"y": ONE, "x": MINUS}, "below", TWO)
Z = ({"z": (3, 4)}, "is", (1, 2))
EMPTY = ({}, "most", NOUGHT)
FOUR = ({"a": ONE, "b": ONE, "c": ONE, "d": ONE}, "most", ONE)
FIVE = ({"a": ONE, "b": ONE, "c": ONE, "d": ONE, "e": ONE}, "most", ONE)

NO_NAMES = (
    None, True, False, 0, 1, -1, "", " ", "A", "a1", "abcdefg", "a b", " a", "a ", "aB", "a\n", "a-", "_", "\u00e9",
    (), ("a",), ("a", "b"), [], ["a"], {}, {"a": 1}, [["a"]], ([],), {"a": [{}]}, ({"a": ()},),
)
NO_ROWS = (
    None, True, False, 0, "", "x most 1", (), [], {}, list(X), X[:2], X + (1,), (X,), [X], {"x": ONE},
    ({"x": ONE}, "equal", ONE), ({"x": ONE}, ["is"], ONE), ({"x": ONE}, {"is": 1}, ONE), ({"x": ONE}, None, ONE),
    (["x"], "is", ONE), (None, "is", ONE), ((("x", ONE),), "is", ONE), ({"X": ONE}, "is", ONE), ({1: ONE}, "is", ONE),
    ({None: ONE}, "is", ONE), ({("x",): ONE}, "is", ONE), ({"abcdefg": ONE}, "is", ONE), ({"x": NOUGHT}, "is", ONE),
) + tuple(({}, "is", thing) for thing in NO_FRACTIONS) + tuple(({"x": thing}, "is", ONE) for thing in NO_FRACTIONS)


def store_of(*pairs):
    """Tell a store to which these rows were told."""
    store = Store()
    for name, row in pairs:
        store.tell(name, row)
    return store


def all_of(store):
    """Tell all that can be asked of a store without rows or sums, and what can be undone and done again."""
    told = [seen(store)]
    other = store.copy()
    while not refused(other.undo):
        told.append(seen(other))
    other = store.copy()
    while not refused(other.again):
        told.append(seen(other))
    return told


def seen(store):
    return (store.names(), store.rows(), store.level(), store.marks(), marked(store))


def marked(store):
    """Tell the rows that each word marks."""
    told = []
    for word in store.marks():
        other = store.copy()
        other.back(word)
        told.append((word, other.rows()))
    return told


def refused(deed, *handed):
    """Do a deed, and tell the class of its refusal, None where it isn't refused."""
    try:
        deed(*handed)
    except StoreError as error:
        return type(error)
    return None


class StoreTest(unittest.TestCase):
    def assert_refused(self, kind, store, deed, *handed):
        """Look that a deed is refused with just this class, and changes nothing."""
        ahead, own = all_of(store), copy.deepcopy(handed)
        self.assertEqual(refused(getattr(store, deed), *own), kind, (deed, handed))
        self.assertEqual(all_of(store), ahead)
        self.assertEqual(repr(own), repr(handed))


class Tell(StoreTest):
    def test_at_first_nothing_stands(self):
        store = Store()
        self.assertEqual(seen(store), ([], [], 0, [], []))
        self.assertEqual(store.verdict()[0], "point")

    def test_rows_stand_in_their_order(self):
        store = Store()
        for at, (name, row) in enumerate([("b", X), ("a", Y), ("c", EMPTY), ("abcdef", Z)]):
            self.assertIsNone(store.tell(name, row))
            self.assertEqual(len(store.names()), at + 1)
        self.assertEqual(store.names(), ["b", "a", "c", "abcdef"])
        self.assertEqual(store.rows(), [("b", X), ("a", Y), ("c", EMPTY), ("abcdef", Z)])
        self.assertEqual(store.row("a"), Y)

    def test_rows_may_clash(self):
        store = store_of(("a", ({"x": ONE}, "is", ONE)), ("b", ({"x": ONE}, "is", TWO)))
        self.assertEqual(store.verdict()[0], "clash")
        store.take("a")
        self.assertEqual(store.verdict()[0], "point")

    def test_no_name(self):
        for store in (Store(), store_of(("b", X)), store_of(("a", X))):
            for name in NO_NAMES:
                self.assert_refused(NoName, store, "tell", name, X)

    def test_no_row(self):
        for store in (Store(), store_of(("b", X))):
            for row in NO_ROWS:
                self.assert_refused(NoRow, store, "tell", "a", row)

    def test_a_name_that_stands(self):
        store = store_of(("a", X), ("b", Y))
        for row in (X, Y, Z, EMPTY):
            self.assert_refused(Stands, store, "tell", "a", row)
            self.assert_refused(Stands, store, "tell", "b", row)
        store.take("a")
        store.tell("a", Z)
        self.assertEqual(store.rows(), [("b", Y), ("a", Z)])

    def test_a_ninth_row(self):
        store = store_of(*((name, EMPTY) for name in "hgfedcba"))
        self.assertEqual(len(store.names()), 8)
        for row in (EMPTY, X, FIVE):
            self.assert_refused(Full, store, "tell", "i", row)
        store.take("d")
        store.tell("i", X)
        self.assertEqual(store.names(), list("hgfecbai"))
        self.assert_refused(Full, store, "tell", "d", EMPTY)

    def test_a_fifth_unknown(self):
        self.assert_refused(Full, Store(), "tell", "a", FIVE)
        store = store_of(("f", FOUR))
        self.assert_refused(Full, store, "tell", "a", X)
        self.assert_refused(Full, store, "tell", "a", FIVE)
        store.tell("a", ({"d": TWO}, "above", MINUS))
        store.tell("b", EMPTY)
        self.assertEqual(store.names(), ["f", "a", "b"])
        store.take("f")
        store.tell("x", ({"x": ONE, "y": ONE, "z": ONE}, "is", ONE))
        self.assert_refused(Full, store, "tell", "c", ({"a": ONE}, "is", ONE))
        store.take("a")
        store.tell("c", ({"a": ONE}, "is", ONE))

    def test_many_unknowns(self):
        letters = "abcdefghijklmnopqrstuvwxyz"
        many = {one + other: ONE for one in letters for other in "xy"}
        self.assert_refused(Full, Store(), "tell", "a", (many, "is", ONE))

    def test_the_first_named_comes(self):
        full = store_of(*((name, EMPTY) for name in "abcdefgh"))
        for store in (store_of(("a", X)), full):
            self.assert_refused(NoName, store, "tell", "A", ["no row"])
            self.assert_refused(NoName, store, "tell", ["a"], None)
            self.assert_refused(NoName, store, "tell", 1, FIVE)
            self.assert_refused(NoRow, store, "tell", "a", ({"x": ONE}, "is", 1))
            self.assert_refused(NoRow, store, "tell", "z", (FIVE[0], "equal", ONE))
            self.assert_refused(Stands, store, "tell", "a", FIVE)
        self.assert_refused(NoRow, full, "tell", "a", None)
        self.assert_refused(NoRow, full, "tell", "i", None)
        self.assert_refused(Stands, full, "tell", "a", X)
        self.assert_refused(Full, full, "tell", "i", X)

    def test_long_numbers_stand(self):
        row = ({"x": (10**30 + 1, 10**29)}, "above", (-(10**999) - 1, 10**40))
        store = store_of(("a", row))
        self.assertEqual(store.row("a"), row)
        self.assertEqual(store.verdict()[0], "point")


class Take(StoreTest):
    def test_the_others_stay_in_their_order(self):
        pairs = [("b", X), ("a", Y), ("c", EMPTY), ("d", Z)]
        for name, row in pairs:
            store = store_of(*pairs)
            self.assertIsNone(store.take(name))
            self.assertEqual(store.rows(), [pair for pair in pairs if pair[0] != name])

    def test_taken_back_and_told_again_it_is_the_last(self):
        store = store_of(("b", X), ("a", Y), ("c", EMPTY))
        store.take("b")
        store.tell("b", X)
        self.assertEqual(store.names(), ["a", "c", "b"])
        self.assertEqual(store.rows(), [("a", Y), ("c", EMPTY), ("b", X)])

    def test_no_name(self):
        for store in (Store(), store_of(("b", X), ("ab", Y))):
            for name in NO_NAMES + ("a", "bb", "abcdef", "x", "y", "least"):
                self.assert_refused(NoName, store, "take", name)
                self.assert_refused(NoName, store, "row", name)
        store = store_of(("b", X), ("ab", Y))
        store.take("b")
        self.assert_refused(NoName, store, "take", "b")
        self.assert_refused(NoName, store, "row", "b")


class Levels(StoreTest):
    def test_no_level(self):
        store = Store()
        self.assert_refused(NoLevel, store, "leave")
        store.tell("a", X)
        self.assert_refused(NoLevel, store, "leave")
        self.assertIsNone(store.enter())
        self.assertIsNone(store.leave())
        self.assert_refused(NoLevel, store, "leave")

    def test_rows_and_marks_stand_as_at_the_entering(self):
        store = store_of(("b", X), ("a", Y))
        store.mark("old")
        store.mark("other")
        ahead = seen(store)
        store.enter()
        self.assertEqual(store.level(), 1)
        store.tell("c", Z)
        store.take("b")
        store.mark("new")
        store.mark("old")
        store.tell("b", Z)
        self.assertEqual(store.marks(), ["new", "old", "other"])
        store.leave()
        self.assertEqual(seen(store), ahead)
        self.assertEqual(store.rows(), [("b", X), ("a", Y)])
        self.assert_refused(NoMark, store, "back", "new")
        store.take("a")
        store.back("old")
        self.assertEqual(store.rows(), [("b", X), ("a", Y)])

    def test_the_order_comes_back(self):
        store = store_of(("b", X), ("a", Y), ("c", Z))
        store.enter()
        store.take("b")
        store.tell("b", X)
        self.assertEqual(store.names(), ["a", "c", "b"])
        store.leave()
        self.assertEqual(store.names(), ["b", "a", "c"])

    def test_levels_within_levels(self):
        store = Store()
        ahead = []
        for at, name in enumerate("abcdefgh"):
            ahead.append(seen(store))
            store.enter()
            store.tell(name, EMPTY)
            store.mark(name)
            if at % 3 == 2:
                store.take(name)
            self.assertEqual(store.level(), at + 1)
        for stood in reversed(ahead):
            store.leave()
            self.assertEqual(seen(store), stood)
        self.assert_refused(NoLevel, store, "leave")

    def test_a_level_entered_again(self):
        store = store_of(("a", X))
        store.enter()
        store.enter()
        store.take("a")
        store.leave()
        self.assertEqual((store.names(), store.level()), (["a"], 1))
        store.take("a")
        store.enter()
        store.tell("b", Y)
        store.leave()
        self.assertEqual((store.names(), store.level()), ([], 1))
        store.leave()
        self.assertEqual((store.names(), store.level()), (["a"], 0))


class Marks(StoreTest):
    def test_back_to_what_is_marked(self):
        store = store_of(("b", X), ("a", Y))
        self.assertIsNone(store.mark("here"))
        store.take("b")
        store.tell("c", Z)
        store.tell("b", EMPTY)
        self.assertIsNone(store.back("here"))
        self.assertEqual(store.rows(), [("b", X), ("a", Y)])
        self.assertEqual(store.marks(), ["here"])
        store.back("here")
        self.assertEqual(store.rows(), [("b", X), ("a", Y)])

    def test_where_no_rows_stand(self):
        store = Store()
        store.mark("none")
        store.tell("a", X)
        store.back("none")
        self.assertEqual(store.rows(), [])
        store.back("none")
        self.assertEqual(store.marks(), ["none"])

    def test_set_twice(self):
        store = store_of(("a", X))
        store.mark("m")
        store.tell("b", Y)
        store.mark("m")
        self.assertEqual(store.marks(), ["m"])
        store.take("a")
        store.back("m")
        self.assertEqual(store.names(), ["a", "b"])

    def test_sorted(self):
        store = Store()
        for word in ("b", "ab", "zz", "a", "abcdef", "is", "b"):
            store.mark(word)
        self.assertEqual(store.marks(), ["a", "ab", "abcdef", "b", "is", "zz"])

    def test_back_leaves_levels_and_marks(self):
        store = store_of(("a", X))
        store.mark("one")
        store.enter()
        store.tell("b", Y)
        store.mark("two")
        store.enter()
        store.back("one")
        self.assertEqual((store.names(), store.level(), store.marks()), (["a"], 2, ["one", "two"]))
        store.leave()
        self.assertEqual((store.names(), store.level(), store.marks()), (["a", "b"], 1, ["one", "two"]))
        store.leave()
        self.assertEqual((store.names(), store.level(), store.marks()), (["a"], 0, ["one"]))

    def test_no_word(self):
        for store in (Store(), store_of(("b", X))):
            for word in NO_NAMES:
                self.assert_refused(NoName, store, "mark", word)
                self.assert_refused(NoMark, store, "back", word)

    def test_a_word_that_marks_nothing(self):
        store = store_of(("a", X))
        store.mark("m")
        for word in ("a", "mm", "x", "abcdef"):
            self.assert_refused(NoMark, store, "back", word)
        store.undo()
        self.assert_refused(NoMark, store, "back", "m")

    def test_a_row_and_a_mark_may_be_called_alike(self):
        store = store_of(("a", X))
        store.mark("a")
        store.take("a")
        store.back("a")
        self.assertEqual((store.names(), store.marks()), (["a"], ["a"]))


DEEDS = (
    ("tell", "a", X), ("tell", "b", Y), ("mark", "m"), ("enter",), ("take", "a"), ("tell", "c", Z), ("mark", "n"),
    ("mark", "n"), ("enter",), ("back", "m"), ("back", "m"), ("leave",), ("mark", "m"), ("tell", "d", EMPTY),
    ("leave",), ("back", "m"), ("tell", "e", EMPTY), ("take", "b"), ("enter",), ("leave",),
)


def do(store, deed):
    return getattr(store, deed[0])(*copy.deepcopy(deed[1:]))


class Undo(StoreTest):
    def test_nothing_done(self):
        store = Store()
        self.assert_refused(NothingDone, store, "undo")
        self.assert_refused(NothingDone, store, "again")
        store.tell("a", X)
        self.assert_refused(NothingDone, store, "again")
        store.undo()
        self.assert_refused(NothingDone, store, "undo")
        store.again()
        self.assert_refused(NothingDone, store, "again")

    def test_each_deed_all_the_way_back_and_on(self):
        store, stood = Store(), []
        for deed in DEEDS:
            stood.append(seen(store))
            self.assertIsNone(do(store, deed))
        stood.append(seen(store))
        for _ in range(2):
            for ahead in reversed(stood[:-1]):
                self.assertIsNone(store.undo())
                self.assertEqual(seen(store), ahead)
            self.assert_refused(NothingDone, store, "undo")
            for behind in stood[1:]:
                self.assertIsNone(store.again())
                self.assertEqual(seen(store), behind)
            self.assert_refused(NothingDone, store, "again")

    def test_each_deed_at_once(self):
        store = Store()
        for deed in DEEDS:
            ahead = seen(store)
            do(store, deed)
            behind = seen(store)
            store.undo()
            self.assertEqual(seen(store), ahead)
            store.again()
            self.assertEqual(seen(store), behind)
            self.assert_refused(NothingDone, store, "again")

    def test_a_new_deed_makes_an_end_of_again(self):
        new = (("tell", "z", EMPTY), ("take", "a"), ("enter",), ("leave",), ("mark", "m"), ("back", "m"))
        for deed in new:
            store = store_of(("a", X))
            store.mark("m")
            store.enter()
            store.tell("b", Y)
            store.undo()
            ahead = seen(store)
            do(store, deed)
            self.assert_refused(NothingDone, store, "again")
            store.undo()
            self.assertEqual(seen(store), ahead)

    def test_a_deed_that_leaves_all_as_it_was_counts(self):
        store = store_of(("a", X))
        store.mark("m")
        for deed in (("mark", "m"), ("back", "m")):
            store.tell("b", Y)
            store.undo()
            ahead = seen(store)
            do(store, deed)
            self.assertEqual(seen(store), ahead)
            self.assert_refused(NothingDone, store, "again")
            store.undo()
            self.assertEqual(seen(store), ahead)
            store.again()
            store.undo()
        store.undo()
        self.assertEqual(store.marks(), [])

    def test_a_refused_deed_and_an_asking_leave_again(self):
        store = store_of(("a", X), ("b", Y))
        store.undo()
        for deed in (("tell", "a", X), ("tell", "c", None), ("take", "z"), ("leave",), ("mark", 1), ("back", "z")):
            self.assertRaises(StoreError, do, store, deed)
        self.ask_all(store)
        store.again()
        self.assertEqual(store.names(), ["a", "b"])

    def test_an_asking_is_no_deed(self):
        store = store_of(("a", X), ("b", Y))
        self.ask_all(store)
        store.undo()
        self.assertEqual(store.names(), ["a"])

    def ask_all(self, store):
        asked = (store.names, store.rows, store.level, store.marks, store.verdict, store.copy)
        for asking in asked:
            asking()
        store.row("a")
        store.span({"x": ONE})
        store.fixed({"x": ONE})
        store.follows(X)
        self.assertRaises(NoName, store.row, "z")

    def test_a_refused_deed_is_not_undone(self):
        store = store_of(("a", X))
        self.assertRaises(Stands, store.tell, "a", X)
        self.assertRaises(NoLevel, store.leave)
        store.undo()
        self.assertEqual(store.names(), [])

    def test_undone_and_done_again_in_turns(self):
        store = store_of(("a", X), ("b", Y), ("c", Z))
        store.undo()
        store.undo()
        store.again()
        self.assertEqual(store.names(), ["a", "b"])
        store.undo()
        store.undo()
        self.assertEqual(store.names(), [])
        for names in (["a"], ["a", "b"], ["a", "b", "c"]):
            store.again()
            self.assertEqual(store.names(), names)

    def test_undo_crosses_levels_and_marks(self):
        store = store_of(("a", X))
        store.enter()
        store.mark("m")
        store.tell("b", Y)
        store.leave()
        store.undo()
        self.assertEqual((store.names(), store.level(), store.marks()), (["a", "b"], 1, ["m"]))
        store.back("m")
        store.undo()
        store.undo()
        store.undo()
        store.undo()
        self.assertEqual((store.names(), store.level(), store.marks()), (["a"], 0, []))

    def test_many(self):
        store = Store()
        for _ in range(500):
            store.tell("a", X)
            store.take("a")
        for _ in range(1000):
            store.undo()
        self.assert_refused_quickly(store)

    def assert_refused_quickly(self, store):
        self.assertRaises(NothingDone, store.undo)
        self.assertEqual(store.names(), [])


class Asked(StoreTest):
    ONES = ({}, {"x": ONE}, {"y": MINUS}, {"x": ONE, "y": (2, 3)})
    ASKED_ROWS = (X, Y, EMPTY, ({"x": ONE}, "is", ONE), ({"y": ONE}, "above", NOUGHT), ({}, "is", ONE))

    def assert_asked(self, store):
        """Look that what is told of a store is what is told of its rows."""
        rows = store.rows()
        self.assertEqual(store.verdict(), verdict_of(rows))
        if store.verdict()[0] == "clash":
            for one in self.ONES:
                self.assertRaises(NoPoint, store.span, one)
                self.assertRaises(NoPoint, store.fixed, one)
            for row in self.ASKED_ROWS:
                self.assertRaises(NoPoint, store.follows, row)
            return
        for one in self.ONES:
            self.assertEqual(store.span(one), span_of(rows, one))
            self.assertEqual(store.fixed(one), fixed_of(rows, one))
            self.assertTrue(span_right(rows, one, store.span(one)) and fixed_right(rows, one, store.fixed(one)))
        for row in self.ASKED_ROWS:
            self.assertEqual(store.follows(row), follows_of(rows, row))
            self.assertTrue(follows_right(rows, row, store.follows(row)))

    def test_kinds(self):
        store = store_of(("b", X), ("a", Y))
        store.mark("m")
        for told, kind in ((store.names(), list), (store.rows(), list), (store.marks(), list), (store.level(), int)):
            self.assertIs(type(told), kind)
        self.assertTrue(all(type(pair) is tuple and len(pair) == 2 for pair in store.rows()))
        self.assertTrue(all(type(row) is tuple and type(row[0]) is dict for name, row in store.rows()))
        self.assertIs(type(store.row("a")), tuple)

    def test_behind_each_deed(self):
        store = Store()
        self.assert_asked(store)
        for deed in DEEDS:
            do(store, deed)
            self.assert_asked(store)

    def test_drawn_rows(self):
        draw = Draw(40)
        for many in (2, 4, 6, 8):
            for unknowns in ("x", "xy", "xyz"):
                for rows in (
                    drawn_rows(draw, many, unknowns), drawn_rows_at(draw, many, unknowns, {"x": (5, 3), "y": (-7, 2)}),
                ):
                    self.assert_asked(store_of(*rows))

    def test_refused_of_a_clash_changes_nothing(self):
        store = store_of(("a", ({"x": ONE}, "is", ONE)), ("b", ({"x": ONE}, "below", ONE)))
        self.assert_refused(NoPoint, store, "span", {"x": ONE})
        self.assert_refused(NoPoint, store, "fixed", {})
        self.assert_refused(NoPoint, store, "follows", X)


class Copy(StoreTest):
    def full_store(self):
        """Tell a store that has rows, marks, levels, deeds to undo and deeds to do again."""
        store = Store()
        for deed in DEEDS:
            do(store, deed)
        store.enter()
        store.mark("last")
        for _ in range(3):
            store.undo()
        return store

    def test_all_stands_likewise(self):
        store = self.full_store()
        other = store.copy()
        self.assertIs(type(other), Store)
        self.assertEqual(all_of(other), all_of(store))
        self.assertEqual(all_of(other.copy()), all_of(store))

    def test_a_copy_of_an_empty_store(self):
        other = Store().copy()
        self.assertEqual(seen(other), seen(Store()))
        self.assert_refused(NothingDone, other, "undo")
        self.assert_refused(NothingDone, other, "again")

    def assert_apart(self, store, other):
        """Look that no deed of the one is seen in the other."""
        ahead = all_of(other)
        for deed in (
            ("undo",), ("again",), ("again",), ("mark", "last"), ("tell", "new", EMPTY), ("take", "new"), ("enter",),
            ("tell", "newer", EMPTY), ("mark", "m"), ("leave",), ("back", "m"), ("undo",), ("undo",),
        ):
            do(store, deed)
            self.assertEqual(all_of(other), ahead)
        while not refused(store.undo):
            self.assertEqual(all_of(other), ahead)
        store.tell("other", X)
        self.assertEqual(all_of(other), ahead)

    def test_deeds_of_either_leave_the_other(self):
        store = self.full_store()
        self.assert_apart(store, store.copy())
        store = self.full_store()
        self.assert_apart(store.copy(), store)
        first, second = store.copy(), store.copy()
        self.assert_apart(first, second)

    def test_what_was_done_ahead_of_the_copying(self):
        store = store_of(("a", X), ("b", Y))
        store.undo()
        other = store.copy()
        other.again()
        self.assertEqual((store.names(), other.names()), (["a"], ["a", "b"]))
        store.again()
        other.undo()
        other.undo()
        self.assertEqual((store.names(), other.names()), (["a", "b"], []))
        other.tell("c", Z)
        self.assert_refused(NothingDone, other, "again")
        store.undo()
        store.again()
        self.assertEqual(store.names(), ["a", "b"])

    def test_copy_is_no_deed(self):
        store = store_of(("a", X), ("b", Y))
        store.undo()
        store.copy()
        store.again()
        store.copy()
        store.undo()
        self.assertEqual(store.names(), ["a"])

    def test_two_stores_have_nothing_in_common(self):
        one, other = Store(), Store()
        one.tell("a", X)
        one.mark("m")
        one.enter()
        self.assertEqual(seen(other), ([], [], 0, [], []))
        self.assert_refused(NothingDone, other, "undo")


class Model:
    """The store as its points tell it, by copying all at each deed."""

    def __init__(self):
        self.state = {"rows": [], "marks": {}, "levels": []}
        self.past, self.future = [], []

    def do(self, deed):
        """Do a deed, and tell the class of its refusal, None where it isn't refused."""
        if deed[0] in ("undo", "again"):
            return self.turn(*((self.past, self.future) if deed[0] == "undo" else (self.future, self.past)))
        state = copy.deepcopy(self.state)
        kind = getattr(self, deed[0])(state, *deed[1:])
        if kind is None:
            self.past.append(self.state)
            self.future = []
            self.state = state
        return kind

    def turn(self, source, target):
        if not source:
            return NothingDone
        target.append(self.state)
        self.state = source.pop()
        return None

    def tell(self, state, name, row):
        if name in [other for other, _ in state["rows"]]:
            return Stands
        unknowns = {unknown for _, other in state["rows"] for unknown in other[0]} | set(row[0])
        if len(state["rows"]) == 8 or len(unknowns) > 4:
            return Full
        state["rows"].append((name, row))
        return None

    def take(self, state, name):
        ahead = len(state["rows"])
        state["rows"] = [pair for pair in state["rows"] if pair[0] != name]
        return None if len(state["rows"]) < ahead else NoName

    def enter(self, state):
        state["levels"].append(copy.deepcopy((state["rows"], state["marks"])))

    def leave(self, state):
        if not state["levels"]:
            return NoLevel
        state["rows"], state["marks"] = state["levels"].pop()
        return None

    def mark(self, state, word):
        state["marks"][word] = copy.deepcopy(state["rows"])

    def back(self, state, word):
        if word not in state["marks"]:
            return NoMark
        state["rows"] = copy.deepcopy(state["marks"][word])
        return None


class Drawn(StoreTest):
    """Deeds drawn by hundreds, beside a model that copies all."""

    WORDS = ("tell", "tell", "tell", "tell", "take", "enter", "leave", "mark", "back", "undo", "undo", "again")

    def drawn_deed(self, draw):
        word = draw.one_of(self.WORDS)
        if word == "tell":
            unknowns = draw.shuffled("uvwxyz")[:draw.number(0, 2)]
            one = {unknown: draw.one_of((ONE, MINUS)) for unknown in unknowns}
            return ("tell", draw.one_of("abcdefghij"), (one, draw.one_of(SORTS), draw.fraction(3, 2)))
        if word == "take":
            return ("take", draw.one_of("abcdefghij"))
        return (word, draw.one_of("mno")) if word in ("mark", "back") else (word,)

    def assert_alike(self, store, model):
        rows = model.state["rows"]
        self.assertEqual(store.rows(), rows)
        self.assertEqual(store.names(), [name for name, row in rows])
        self.assertEqual(store.level(), len(model.state["levels"]))
        self.assertEqual(store.marks(), sorted(model.state["marks"]))

    def test_drawn_deeds(self):
        kinds = set()
        for seed in range(12):
            draw = Draw(50 + seed)
            pairs = [(Store(), Model())]
            for at in range(150):
                if at % 50 == 49:
                    pairs.append((pairs[-1][0].copy(), copy.deepcopy(pairs[-1][1])))
                for store, model in pairs:
                    deed = self.drawn_deed(draw)
                    kind = model.do(copy.deepcopy(deed))
                    kinds.add(kind)
                    self.assertEqual(refused(getattr(store, deed[0]), *deed[1:]), kind)
                for store, model in pairs:
                    self.assert_alike(store, model)
        self.assertEqual(kinds, {None, Stands, Full, NoName, NoLevel, NoMark, NothingDone})


class HangsOnTheRowsAlone(StoreTest):
    """Points 5 and 23: whatever deeds lead to the rows, the same is told."""

    ONES = ({}, {"x": ONE}, {"x": MINUS, "y": (2, 3)}, {"y": ONE})
    ASKED_ROWS = (X, ({"x": ONE, "y": ONE}, "is", ONE), ({"y": ONE}, "below", (9, 1)), EMPTY)

    def answers(self, store):
        told = [store.verdict()]
        for one in self.ONES:
            for asking in (store.span, store.fixed):
                told.append(self.answer(asking, one))
        return told + [self.answer(store.follows, row) for row in self.ASKED_ROWS]

    def answer(self, asking, thing):
        try:
            return asking(thing)
        except NoPoint:
            return NoPoint

    def ways(self, rows):
        """Tell stores in which these rows stand, reached by other deeds and in other orders."""
        yield store_of(*rows)
        yield store_of(*reversed(rows))
        yield store_of(*rows[1:], *rows[:1])
        yield self.told_and_taken(rows)
        yield self.by_a_level(rows)
        yield self.by_a_mark(rows)
        yield self.undone(rows)
        yield self.undone(rows).copy()

    def told_and_taken(self, rows):
        store = Store()
        for name, row in reversed(rows):
            store.tell("other", EMPTY)
            store.tell(name, ({"new": ONE}, "is", ONE))
            store.take("other")
            store.take(name)
            store.tell(name, ({key: row[0][key] for key in reversed(row[0])}, row[1], row[2]))
        return store

    def by_a_level(self, rows):
        store = store_of(*rows)
        store.enter()
        for name, row in rows:
            store.take(name)
        store.tell("other", ({"new": ONE}, "is", ONE))
        store.verdict()
        store.leave()
        return store

    def by_a_mark(self, rows):
        store = store_of(*rows)
        store.mark("m")
        store.take(rows[0][0])
        store.enter()
        store.take(rows[1][0])
        store.verdict()
        store.back("m")
        return store

    def undone(self, rows):
        store = store_of(*rows)
        store.take(rows[0][0])
        store.tell("other", ({"x": TWO}, "above", (99, 1)))
        store.verdict()
        store.undo()
        store.undo()
        store.undo()
        store.again()
        return store

    def test_drawn_rows(self):
        draw = Draw(41)
        for many in (2, 4, 6, 7):
            for unknowns in ("x", "xy", "xyz"):
                for rows in (
                    drawn_rows(draw, many, unknowns), drawn_rows_at(draw, many, unknowns, {"x": (5, 3), "y": (-7, 2)}),
                ):
                    wanted = self.answers(store_of(*rows))
                    for store in self.ways(rows):
                        self.assertEqual(dict(store.rows()), dict(rows))
                        self.assertEqual(self.answers(store), wanted)
                        self.assertEqual(self.answers(store), wanted)


class Own(StoreTest):
    """Point 2: what was handed in is not kept, what is told is the asker's own."""

    def row(self):
        return ({"x": ONE, "y": (2, 3)}, "most", TWO)

    def store_from(self, row):
        """Tell a store in which the row stands, is marked, is undone and done again, and stands beneath a level."""
        store = Store()
        store.tell("a", row)
        store.mark("m")
        store.enter()
        store.tell("b", row)
        store.take("a")
        store.undo()
        return store

    def test_what_is_handed_in_is_unchanged(self):
        row, one = self.row(), {"y": ONE, "x": MINUS}
        store = self.store_from(row)
        store.span(one)
        store.fixed(one)
        store.follows(row)
        self.assertEqual((repr(row), repr(one)), (repr(self.row()), repr({"y": ONE, "x": MINUS})))

    def test_what_is_handed_in_is_not_kept(self):
        row = self.row()
        store = self.store_from(row)
        other = store.copy()
        ahead = all_of(self.store_from(self.row()))
        row[0]["x"] = (99, 1)
        self.assertEqual((all_of(store), all_of(other)), (ahead, ahead))
        row[0].clear()
        self.assertEqual((all_of(store), all_of(other)), (ahead, ahead))
        store.leave()
        store.back("m")
        self.assertEqual(store.rows(), [("a", self.row())])

    def test_what_is_told_is_own(self):
        store = self.store_from(self.row())
        other = store.copy()
        ahead = all_of(store)
        first, second = store.rows(), store.rows()
        first[0][1][0].clear()
        self.assertEqual(first[1][1], self.row())
        self.assertEqual(second, [("a", self.row()), ("b", self.row())])
        first.clear()
        store.names().clear()
        store.marks().append("z")
        store.row("a")[0]["x"] = NOUGHT
        store.row("b")[0].clear()
        self.assertEqual((all_of(store), all_of(other)), (ahead, ahead))

    def test_told_answers_are_own(self):
        store = self.store_from(self.row())
        for asking in (
            store.verdict, lambda: store.span({"x": ONE}), lambda: store.span({"x": ONE, "y": (2, 3)}),
            lambda: store.fixed({"x": ONE}), lambda: store.follows(self.row()), lambda: store.follows(X),
        ):
            first, wanted = asking(), asking()
            self.spoil(first)
            self.assertEqual(asking(), wanted)
            self.assertEqual(store.rows(), [("a", self.row()), ("b", self.row())])

    def spoil(self, thing):
        if isinstance(thing, (list, tuple, dict)):
            for part in thing.values() if isinstance(thing, dict) else thing:
                self.spoil(part)
        if isinstance(thing, (list, dict)):
            thing.clear()


if __name__ == "__main__":
    unittest.main()
