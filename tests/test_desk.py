"""Points 5, 30 and 31: the desk, its lines, and what it refuses."""

import copy
import unittest

from looking import SORTS, Draw, drawn_rows, drawn_rows_at
from scopestore.desk import Desk
from scopestore.errors import (
    Full, NoLevel, NoLine, NoMark, NoName, NoPoint, NothingDone, NoText, NoWord, Stands, StoreError,
)
from scopestore.follows import follows_of
from scopestore.spans import fixed_of, span_of
from scopestore.texts import fraction_text, point_text, read_row, read_sum, row_text, shares_text, sum_text
from scopestore.verdicts import verdict_of

ASKED = (
    "names", "marks", "level", "verdict", "stores", "least x", "greatest x", "least y", "greatest x - y", "fixed x",
    "fixed 0", "follows x most 1", "follows 0 is 0", "show a", "show b", "show low", "show high",
)
FIRST_WORDS = (
    "tell", "take", "enter", "leave", "mark", "back", "undo", "again", "names", "marks", "level", "show", "verdict",
    "least", "greatest", "fixed", "follows", "copy", "use", "stores",
)


def answer(desk, line):
    """Tell how a line is answered, or the class of its refusal."""
    try:
        return desk.told(line)
    except StoreError as error:
        return type(error)


def desk_of(*lines):
    """Tell a desk that was told these lines."""
    desk = Desk()
    for line in lines:
        desk.told(line)
    return desk


def all_of(desk):
    """Tell all that a desk answers: what stands in each store, what can be undone and done again, what is in use."""
    told = [desk_answers(desk)]
    for word in desk.told("stores").split(" "):
        for turn in ("undo", "again"):
            other = copy.deepcopy(desk)
            other.told(f"use {word}")
            told.append(desk_answers(other))
            while answer(other, turn) is not NothingDone:
                told.append(desk_answers(other))
    other = copy.deepcopy(desk)
    return told + [answer(other, "copy zzzzzz")]


def desk_answers(desk):
    return [answer(desk, line) for line in ASKED]


class DeskTest(unittest.TestCase):
    def assert_told(self, desk, *pairs):
        """Look that lines are answered, or refused, so, one behind the other."""
        for line, wanted in pairs:
            if isinstance(wanted, str):
                told = desk.told(line)
                self.assertIs(type(told), str)
                self.assertEqual(told, wanted, line)
            else:
                self.assert_refused(wanted, desk, line)

    def assert_refused(self, kind, desk, line):
        """Look that a line is refused with just this class, and changes nothing."""
        ahead = all_of(desk)
        self.assertIs(answer(desk, line), kind, line)
        self.assertEqual(all_of(desk), ahead)


class Deeds(DeskTest):
    def test_at_first(self):
        self.assert_told(
            Desk(), ("names", "none"), ("marks", "none"), ("level", "0"), ("stores", "first"), ("use first", "first"),
            ("verdict", "point nothing"), ("show a", NoName), ("undo", NothingDone), ("again", NothingDone),
            ("leave", NoLevel), ("back m", NoMark), ("take a", NoName), ("fixed 0", "fixed 0"), ("least 0", "at 0"),
            ("greatest x", "without"),
        )

    def test_rows(self):
        self.assert_told(
            Desk(), ("tell b x + y most 3", "b"), ("tell a -3/4 x below 1/2", "b a"), ("names", "b a"),
            ("show b", "x + y most 3"), ("show a", "-3/4 x below 1/2"), ("take b", "a"), ("tell b 0 is 0", "a b"),
            ("show b", "0 is 0"), ("take a", "b"), ("take b", "none"), ("names", "none"), ("undo", "b"),
            ("undo", "a b"), ("again", "b"), ("again", "none"), ("again", NothingDone), ("tell is is is 1", "is"),
            ("show is", "is is 1"),
        )

    def test_levels_and_marks(self):
        self.assert_told(
            Desk(), ("tell a x is 1", "a"), ("mark m", "a"), ("enter", "a"), ("level", "1"), ("tell b y is 1", "a b"),
            ("mark ab", "a b"), ("marks", "ab m"), ("enter", "a b"), ("level", "2"), ("take a", "b"), ("back m", "a"),
            ("marks", "ab m"), ("leave", "a b"), ("leave", "a"), ("marks", "m"), ("level", "0"), ("leave", NoLevel),
            ("take a", "none"), ("mark m", "none"), ("back m", "none"), ("undo", "none"), ("undo", "none"),
            ("undo", "a"), ("back ab", NoMark),
        )

    def test_verdicts(self):
        self.assert_told(
            Desk(), ("tell low x least 1", "low"), ("verdict", "point x = 1"), ("tell high x below 1", "low high"),
            ("verdict", "clash high = 1, low = -1"), ("least x", NoPoint), ("greatest 0", NoPoint),
            ("fixed x", NoPoint), ("follows 0 is 0", NoPoint), ("take high", "low"), ("tell c 0 above 0", "low c"),
            ("verdict", "clash c = -1"),
        )

    def test_spans_and_the_rest(self):
        desk = desk_of("tell low x least 1", "tell high x below 5/2", "tell pin y is -1/3")
        self.assert_told(
            desk, ("least x", "at 1"), ("greatest x", "near 5/2"), ("least -2 x", "near -5"), ("greatest -x", "at -1"),
            ("least y", "at -1/3"), ("greatest y", "at -1/3"), ("least z", "without"), ("greatest x + z", "without"),
            ("greatest x + y", "near 13/6"), ("fixed y", "fixed -1/3"), ("fixed x", "free"), ("fixed -3 y", "fixed 1"),
            ("fixed z", "free"), ("fixed 0", "fixed 0"), ("follows x below 5/2", "yes"), ("follows x least 1", "yes"),
            ("follows x + y above 0", "yes"), ("follows y is -1/3", "yes"), ("follows 0 is 0", "yes"),
            ("follows x above 1", "no x = 1, y = -1/3"),
        )
        for line in ("follows x most 2", "follows y is 0", "follows z is 0", "follows 0 is 1", "follows x - z below 0"):
            self.assertTrue(desk.told(line).startswith("no "))

    def test_unknowns_that_are_called_like_sorts(self):
        desk = desk_of("tell a is + most least 1", "tell b is most 0")
        self.assert_told(
            desk, ("least most", "at 1"), ("greatest is", "at 0"), ("follows most least 1", "yes"),
            ("show a", "is + most least 1"), ("follows is + most is 1", f"no {self.breaking(desk, 'is + most is 1')}"),
        )

    def breaking(self, desk, text):
        rows = [(name, read_row(desk.told(f"show {name}"))) for name in desk.told("names").split(" ")]
        return point_text(follows_of(rows, read_row(text))[1])


class Stores(DeskTest):
    def test_copy_and_use(self):
        self.assert_told(
            Desk(), ("tell a x is 1", "a"), ("copy b", "first"), ("stores", "b first"), ("tell c y is 1", "a c"),
            ("use b", "b"), ("names", "a"), ("stores", "b first"), ("take a", "none"), ("copy aa", "b"),
            ("stores", "aa b first"), ("use first", "first"), ("names", "a c"), ("use aa", "aa"), ("names", "none"),
            ("use none", NoWord), ("names", "none"), ("use aa", "aa"),
        )

    def test_copy_over_a_word_that_is_kept(self):
        self.assert_told(
            Desk(), ("tell a x is 1", "a"), ("copy b", "first"), ("use b", "b"), ("tell c y is 1", "a c"),
            ("copy first", "b"), ("stores", "b first"), ("use first", "first"), ("names", "a c"), ("take c", "a"),
            ("use b", "b"), ("names", "a c"),
        )

    def test_copy_over_the_word_in_use(self):
        desk = desk_of("tell a x is 1", "mark m", "enter", "tell b y is 1", "undo")
        ahead = all_of(desk)
        self.assert_told(desk, ("copy first", "first"), ("stores", "first"))
        self.assertEqual(all_of(desk), ahead)
        self.assert_told(desk, ("again", "a b"), ("undo", "a"), ("leave", "a"), ("marks", "m"), ("level", "0"))

    def test_undo_leaves_copy_and_use(self):
        self.assert_told(
            Desk(), ("tell a x is 1", "a"), ("copy b", "first"), ("undo", "none"), ("stores", "b first"),
            ("use b", "b"), ("names", "a"), ("undo", "none"), ("use first", "first"), ("undo", NothingDone),
            ("again", "a"), ("stores", "b first"), ("use b", "b"), ("again", "a"), ("again", NothingDone),
        )

    def test_copy_and_use_leave_again(self):
        self.assert_told(
            Desk(), ("tell a x is 1", "a"), ("undo", "none"), ("copy b", "first"), ("use b", "b"),
            ("use first", "first"), ("again", "a"),
        )

    def test_stores_share_nothing(self):
        lines = ("tell a x is 1", "mark m", "enter", "tell b y is 1", "mark n", "undo")
        desk = desk_of(*lines)
        desk.told("copy other")
        desk.told("use other")
        wanted = desk_answers(desk)
        desk.told("use first")
        for line in ("again", "take a", "mark m", "leave", "undo", "undo", "undo", "undo"):
            desk.told(line)
            other = copy.deepcopy(desk)
            other.told("use other")
            self.assertEqual(desk_answers(other), wanted)

    def test_two_desks_have_nothing_in_common(self):
        one, other = Desk(), Desk()
        for line in ("tell a x is 1", "mark m", "enter", "copy b", "use b"):
            one.told(line)
        self.assertEqual(all_of(other), all_of(Desk()))

    def test_words_as_names_of_lines(self):
        for word in ("copy", "use", "stores", "tell", "none", "first"):
            self.assert_told(Desk(), (f"copy {word}", "first"), (f"use {word}", word))


class Refused(DeskTest):
    def desks(self):
        yield Desk()
        yield desk_of("tell a x most 1", "mark m", "enter", "tell b y least 1", "undo")
        yield desk_of("tell a x is 1", "tell b x is 2", "copy other", "use other")

    def assert_each(self, kind, lines):
        for desk in self.desks():
            for line in lines:
                self.assert_refused(kind, desk, line)

    def test_no_first_word(self):
        self.assert_each(NoLine, ("", " ", "  ", "x", "Tell a x is 1", "tel a x is 1", "tella x is 1", "say", "?", "0"))
        self.assert_each(NoLine, [word.upper() for word in FIRST_WORDS])
        self.assert_each(NoLine, [word[:-1] for word in FIRST_WORDS if word != "marks"])
        self.assert_each(NoLine, [f"{word}s" for word in FIRST_WORDS if word != "mark"])
        self.assert_each(NoLine, [f"{word}," for word in FIRST_WORDS])

    def test_the_count_of_words(self):
        bare = ("enter", "leave", "undo", "again", "names", "marks", "level", "verdict", "stores")
        self.assert_each(NoLine, [f"{word} {more}" for word in bare for more in ("a", "first", "0", "a b", "x is 1")])
        one_more = ("take", "mark", "back", "show", "copy", "use")
        endings = ("", " a b", " a a", " first x is 1")
        self.assert_each(NoLine, [f"{word}{more}" for word in one_more for more in endings])
        self.assert_each(NoLine, ("least", "greatest", "fixed", "follows", "follows x", "follows x is"))
        self.assert_each(NoLine, ("tell", "tell c", "tell c x", "tell c x is", "tell x is 1", "tell c 0 is"))

    def test_blanks(self):
        lines = (
            "names", "take a", "tell c x is 1", "least x", "follows x is 1", "copy b", "use first", "greatest x + y",
            "fixed 2 x", "verdict",
        )
        for line in lines:
            self.assert_each(NoLine, (f" {line}", f"{line} ", f" {line} ", line.replace(" ", "  ") + "  "))
            parts = line.split(" ")
            self.assert_each(NoLine, [
                " ".join(parts[:at]) + "  " + " ".join(parts[at:]) for at in range(1, len(parts))
            ])

    def test_no_name_and_no_word(self):
        wrong = ("A", "a1", "abcdefg", "1", "-", "a,", "_", "aB", "~")
        lines = [f"{word} {name}" for word in ("take", "mark", "back", "show", "copy", "use") for name in wrong]
        self.assert_each(NoLine, lines + [f"tell {name} x is 1" for name in wrong])

    def test_no_text(self):
        sums = ("1", "X", "y + x", "x +", "1 x", "2x", "x + x", "+ x", "-", "abcdefg", "0 x", "x is 1", "2/4 x")
        self.assert_each(NoText, [f"{word} {text}" for word in ("least", "greatest", "fixed") for text in sums])
        rows = (
            "x equal 1", "x is y", "x is 2/4", "y + x is 1", "1 x is 1", "x most +1", "is is is", "x is 1 2", "X is 1",
        )
        self.assert_each(NoText, [f"follows {text}" for text in rows] + [f"tell c {text}" for text in rows])
        self.assert_each(NoText, (f"least {'9' * 31} x", f"tell c x is {'9' * 31}"))

    def test_no_word(self):
        self.assert_each(NoWord, ("use a", "use m", "use firsts", "use second", "use none"))

    def test_as_the_store_refuses(self):
        desk = desk_of("tell a x most 1", "mark m")
        self.assert_told(
            desk, ("tell a y is 1", Stands), ("tell b b + c + d + e is 1", Full), ("take b", NoName),
            ("show b", NoName), ("leave", NoLevel), ("back a", NoMark), ("again", NothingDone),
        )
        for name in "bcdefgh":
            desk.told(f"tell {name} 0 is 0")
        self.assert_refused(Full, desk, "tell i 0 is 0")
        self.assert_refused(Stands, desk, "tell h 0 is 0")

    def test_rows_of_however_many_unknowns(self):
        self.assert_refused(Full, Desk(), "tell a a + b + c + d + e is 1")
        many = " + ".join("abcdefghijklmnopqrstuvwxyz")
        self.assert_refused(Full, Desk(), f"tell a {many} is 1")
        self.assert_told(Desk(), ("tell a a + b + c + d is 1", "a"))

    def test_the_first_that_is_due_comes(self):
        desk = desk_of("tell a x is 1", "tell b x is 2")
        self.assert_told(
            desk, ("tell a x equal 1", NoText), ("tell A x equal 1", NoLine), ("tell a  x is 1", NoLine),
            ("tell A x is 1", NoLine), ("tell a v + w + y + z is 1", Stands), ("least y + x", NoText),
            ("greatest 1", NoText), ("fixed", NoLine), ("fixed x ", NoLine), ("fixed X", NoText),
            ("follows x is", NoLine), ("follows x is x", NoText), ("follows x is 1", NoPoint), ("least x", NoPoint),
            ("use A", NoLine), ("use z", NoWord), ("take A", NoLine), ("take z", NoName), ("back Z", NoLine),
            ("back z", NoMark), ("mark M", NoLine), ("show A", NoLine), ("show z", NoName), ("leave a", NoLine),
            ("again a", NoLine), ("copy first first", NoLine),
        )

    def test_a_refused_line_leaves_again(self):
        desk = desk_of("tell a x is 1", "tell b y is 1", "undo")
        for line in ("tell a x is 1", "tell c x", "tell c x equal 1", "use z", "leave", "names ", "take z", "least X"):
            self.assertRaises(StoreError, desk.told, line)
        self.assert_told(desk, ("again", "a b"))


class HangsOnTheRowsAlone(DeskTest):
    """Point 5: the answers are what the functions tell of the rows that stand, by whatever deeds they were reached."""

    SUMS = ("0", "x", "-x", "2 x - y", "x + y", "1/3 y", "z")
    ROWS = ("x most 1", "x + y is 0", "y above -1/2", "0 is 0", "x - y least 2", "z below 0")

    def wanted(self, rows):
        """Tell the answers by the functions."""
        verdict = verdict_of(rows)
        write = point_text if verdict[0] == "point" else shares_text
        told = [f"{verdict[0]} {write(verdict[1])}"]
        for text in self.SUMS:
            told += self.wanted_of_sum(rows, read_sum(text)) if verdict[0] == "point" else [NoPoint] * 3
        for text in self.ROWS:
            told.append(self.wanted_of_row(rows, read_row(text)) if verdict[0] == "point" else NoPoint)
        return told

    def wanted_of_sum(self, rows, one):
        ends = ["without" if end[0] == "without" else f"{end[0]} {fraction_text(end[1])}" for end in span_of(rows, one)]
        fixed = fixed_of(rows, one)
        return ends + [f"fixed {fraction_text(fixed[1])}" if fixed[0] == "fixed" else "free"]

    def wanted_of_row(self, rows, row):
        told = follows_of(rows, row)
        return "yes" if told[0] == "follows" else f"no {point_text(told[1])}"

    def answers(self, desk):
        told = [answer(desk, "verdict")]
        for text in self.SUMS:
            told += [answer(desk, f"{word} {text}") for word in ("least", "greatest", "fixed")]
        return told + [answer(desk, f"follows {text}") for text in self.ROWS]

    def ways(self, rows):
        """Tell desks whose store in use has these rows, reached by other lines."""
        tells = [f"tell {name} {row_text(row)}" for name, row in rows]
        takes = [f"take {name}" for name, row in rows]
        yield desk_of(*tells)
        yield desk_of(*reversed(tells))
        yield desk_of("tell other q is 1", "verdict", "take other", *tells)
        yield desk_of(*tells, "enter", *takes, "tell other q is 1", "verdict", "leave")
        yield desk_of(*tells, "mark m", *takes, "enter", "back m")
        yield desk_of(*tells, *takes, *(["undo"] * len(takes)), "undo", "again")
        yield desk_of(*tells, "copy b", *takes, "use b")
        yield desk_of(*tells, *takes, *tells[::-1], "copy first")

    def test_drawn_rows(self):
        draw = Draw(90)
        for many in (2, 4, 6, 7):
            for unknowns in ("x", "xy", "xyz"):
                point = {"x": (5, 3), "y": (-7, 2)}
                for rows in (drawn_rows(draw, many, unknowns, SORTS, 2, 1), drawn_rows_at(draw, many, unknowns, point)):
                    wanted = self.wanted(rows)
                    for desk in self.ways(rows):
                        self.assertEqual(self.answers(desk), wanted)
                        self.assertEqual(self.answers(desk), wanted)

    def test_sums_are_asked_as_they_are_written(self):
        draw = Draw(91)
        for _ in range(30):
            rows = drawn_rows_at(draw, 5, "xyz", {"x": (1, 2)}, 9, 9)
            desk = desk_of(*(f"tell {name} {row_text(row)}" for name, row in rows))
            one = drawn_rows(draw, 1, "xyz", SORTS, 99, 9)[0][1][0]
            wanted = self.wanted_of_sum(rows, one)
            words = ("least", "greatest", "fixed")
            self.assertEqual([desk.told(f"{word} {sum_text(one)}") for word in words], wanted)


if __name__ == "__main__":
    unittest.main()
