"""Points 28 and 29: texts of fractions, sums, rows, points and shares, and how the first three are read."""

import math
import re
import unittest

from looking import LONG, LONGER, SORTS, Draw, drawn_rows, pair_of
from scopestore.errors import NoText
from scopestore.texts import (
    fraction_text, point_text, read_fraction, read_row, read_sum, row_text, shares_text, sum_text,
)

NOUGHT = (0, 1)
ONE = (1, 1)
MINUS = (-1, 1)
SIGNS = [chr(at) for at in range(32, 127)]
FRACTIONS = {
    "0": NOUGHT, "1": ONE, "-1": MINUS, "12": (12, 1), "-3/4": (-3, 4), "3/4": (3, 4), "1/2": (1, 2), "-1/2": (-1, 2),
    "10": (10, 1), "100/99": (100, 99), "999/98": (999, 98), str(LONG): (LONG, 1), f"-{LONG}": (-LONG, 1),
    f"1/{LONG}": (1, LONG), f"-{LONGER}/{10**29}": (-LONGER, 10**29),
}
SUMS = {
    "0": {}, "x": {"x": ONE}, "-x": {"x": MINUS}, "2 x": {"x": (2, 1)}, "-2 x": {"x": (-2, 1)},
    "-3/4 x + y - 2 z": {"z": (-2, 1), "x": (-3, 4), "y": ONE}, "x - y": {"y": MINUS, "x": ONE},
    "-x - y": {"x": MINUS, "y": MINUS}, "1/2 x": {"x": (1, 2)}, "a + ab + b": {"b": ONE, "ab": ONE, "a": ONE},
    "is + most": {"most": ONE, "is": ONE}, "10 abcdef - 1/9 zzzzzz": {"abcdef": (10, 1), "zzzzzz": (-1, 9)},
    f"{LONG} a - {LONGER}/{10**29} b": {"b": (-LONGER, 10**29), "a": (LONG, 1)},
    "a + b + c + d - e + 2 f": {"f": (2, 1), "e": MINUS, "d": ONE, "c": ONE, "b": ONE, "a": ONE},
}
ROWS = {
    "x + y most 3": ({"x": ONE, "y": ONE}, "most", (3, 1)), "0 is 0": ({}, "is", NOUGHT),
    "-3/4 x below -1/2": ({"x": (-3, 4)}, "below", (-1, 2)), "is is 1": ({"is": ONE}, "is", ONE),
    "is + most most 1": ({"is": ONE, "most": ONE}, "most", ONE), "0 above 7": ({}, "above", (7, 1)),
    "above - below least 0": ({"above": ONE, "below": MINUS}, "least", NOUGHT),
    f"x is {LONG}": ({"x": ONE}, "is", (LONG, 1)),
}
NO_FRACTIONS = (
    "", " ", "-", "/", "-/", "+1", "+0", "-0", "00", "01", "-01", "1.0", "1/", "/2", "-/2", "1/1", "0/1", "0/2", "2/1",
    "2/4", "-2/4", "6/3", "1/0", "0/0", "1/-2", "-1/-2", "1/+2", "1/02", "1//2", "1/2/3", "--1", "1-", "- 1", " 1",
    "1 ", "1 /2", "1/ 2", "1 2", "x", "1x", "1e3", "1_0", "0x1", "one", "is", "-00", "0/", "-1/1", "-0/1", "1/00",
    "10/010",
    "9" * 31, "-" + "9" * 31, "1/" + "9" * 31, "1" * 31 + "/7", "1/" + "3" * 300, "9" * 300,
)
NO_SUMS = (
    "", " ", "-", "+", "- x", "+x", "+ x", "x +", "x -", "x + ", " x", "x ", "x  + y", "x +  y", "x+y", "x +y", "x+ y",
    "x y", "1", "-1", "2", "-0", "0 x", "1 x", "-1 x", "x + 1 y", "x - 1 y", "x + 0 y", "0 + x", "x + 0", "00", "0 0",
    "y + x", "x + x", "x - x", "x + y + x", "b + ab", "2x", "x2", "2 2 x", "x + -y", "x + -2 y", "x - -y", "--x", "-+x",
    "X", "x + Y", "abcdefg", "x + abcdefg", "2 abcdefg", "2/4 x", "2/1 x", "+2 x", "02 x", "-02 x", "1/2x", "1 /2 x",
    "x * y", "2*x", "x = 1", "x, y", "1/0 x", "x + 2", "x + 2/4 y", "-  x", "x_", "x-y", "9" * 31 + " x",
    "x + 1/" + "9" * 31 + " y", "-0 x", "x most 1", "nothing", "(x)", "1/1 x", "x + y +", "+", "x + + y", "x - - y",
)
NO_ROWS = (
    "", " ", "is", "is 0", "x is", "is is", "x  is 0", "x is  0", " x is 0", "x is 0 ", "x is", "x 0", "x equal 0",
    "x IS 0", "x is x", "x is y + 1", "x is 2/4", "x is -0", "x is +1", "x is 01", "1 x is 0", "y + x is 0", "x = 0",
    "x most least 0", "x is 0 is 0", "+ x is 0", " is 0", "-is 0", "0  is 0", "00 is 0", "x + is 0", "x - x is 0",
    "x is " + "9" * 31, "9" * 31 + " x is 0", "xmost 3", "x most3", "x, most 3", "x most 3.", "x most", "most 3", "3",
    "x\tmost 3",
)
WHOLE = "[1-9][0-9]{0,29}"
SIZE = f"{WHOLE}(?:/{WHOLE})?"
TERM = f"(?:{SIZE} )?[a-z]{{1,6}}"


def size_by_hand(text):
    """Tell a fraction above 0, None where the text is none."""
    if not re.fullmatch(SIZE, text):
        return None
    top, slash, bottom = text.partition("/")
    if bottom == "1" or math.gcd(int(top), int(bottom or "1")) != 1:
        return None
    return (int(top), int(bottom or "1"))


def fraction_by_hand(text):
    """Tell a fraction by the document's words, None where the text is none."""
    if text == "0":
        return NOUGHT
    size = size_by_hand(text[1:] if text[:1] == "-" else text)
    return size and ((-size[0], size[1]) if text[:1] == "-" else size)


def sum_by_hand(text):
    """Tell a sum by the document's words, None where the text is none."""
    if text == "0":
        return {}
    if not re.fullmatch(f"-?{TERM}(?: [+-] {TERM})*", text):
        return None
    told = {}
    for sign, number, unknown in re.findall(f"(^-?|[+-] )(?:({SIZE}) )?([a-z]+)", text):
        size = size_by_hand(number) if number else ONE
        if number == "1" or size is None or (told and unknown <= max(told)):
            return None
        told[unknown] = (-size[0], size[1]) if sign.startswith("-") else size
    return told


def row_by_hand(text):
    """Tell a row by the document's words, None where the text is none."""
    found = re.fullmatch(f"(.*) ({'|'.join(SORTS)}) ([^ ]*)", text)
    if not found:
        return None
    one, bound = sum_by_hand(found[1]), fraction_by_hand(found[3])
    return None if one is None or bound is None else (one, found[2], bound)


def beside(text, signs=SIGNS):
    """Tell texts with one sign put in, left out or set otherwise."""
    for at in range(len(text) + 1):
        yield text[:at] + text[at + 1:]
        for sign in signs:
            yield text[:at] + sign + text[at:]
            yield text[:at] + sign + text[at + 1:]


class TextTest(unittest.TestCase):
    def assert_read(self, read, by_hand, text):
        """Look that a text is read as by hand, and tell whether it is one."""
        wanted = by_hand(text)
        if wanted is None:
            self.assertRaises(NoText, read, text)
            return False
        told = read(text)
        self.assertEqual(told, wanted, text)
        self.assertIs(type(told), type(wanted))
        return True

    def assert_beside(self, read, by_hand, texts):
        seen = []
        for text in texts:
            self.assertTrue(self.assert_read(read, by_hand, text))
            seen += [self.assert_read(read, by_hand, other) for other in beside(text)]
        self.assertGreater(seen.count(True), 5)
        self.assertGreater(seen.count(False), seen.count(True))

    def assert_texts(self, texts, write, read):
        for text, thing in texts.items():
            with self.subTest(text):
                self.assertEqual(write(thing), text)
                self.assertEqual(read(text), thing)

    def assert_none(self, read, by_hand, texts):
        for text in texts:
            with self.subTest(text):
                self.assertRaises(NoText, read, text)
                self.assertIsNone(by_hand(text))


class Fractions(TextTest):
    def test_told_as_written(self):
        self.assert_texts(FRACTIONS, fraction_text, read_fraction)

    def test_no_text(self):
        self.assert_none(read_fraction, fraction_by_hand, NO_FRACTIONS)

    def test_one_sign_otherwise(self):
        self.assert_beside(read_fraction, fraction_by_hand, FRACTIONS)

    def test_thirty_figures(self):
        for figures in ("9" * 30, "1" + "0" * 29, "1/" + "9" * 30, "-" + "9" * 30 + "/" + "1" + "0" * 29):
            self.assertTrue(self.assert_read(read_fraction, fraction_by_hand, figures))
        for figures in ("9" * 31, "1" + "0" * 30, "-" + "9" * 31, "1/" + "9" * 31, "9" * 31 + "/2", "0" * 31, "0" * 30):
            self.assertFalse(self.assert_read(read_fraction, fraction_by_hand, figures))

    def test_long_ones_are_written(self):
        deep = 10**3999 + 7
        self.assertEqual(fraction_text((deep, 1)), str(deep))
        self.assertEqual(fraction_text((-deep, 10**3999)), f"-{deep}/1" + "0" * 3999)
        self.assertRaises(NoText, read_fraction, str(10**299))

    def test_there_and_back(self):
        draw = Draw(80)
        for _ in range(300):
            number = draw.fraction(*draw.one_of(((9, 9), (999, 99), (LONGER, LONG))))
            self.assertEqual(read_fraction(fraction_text(number)), number)


class Sums(TextTest):
    def test_told_as_written(self):
        self.assert_texts(SUMS, sum_text, read_sum)

    def test_no_text(self):
        self.assert_none(read_sum, sum_by_hand, NO_SUMS)

    def test_one_sign_otherwise(self):
        self.assert_beside(read_sum, sum_by_hand, [text for text in SUMS if len(text) < 30])

    def test_the_order_of_keys_is_nothing(self):
        for text, one in SUMS.items():
            self.assertEqual(sum_text({key: one[key] for key in reversed(one)}), text)
            self.assertEqual(sum_text({key: one[key] for key in sorted(one)}), text)

    def test_however_many_unknowns(self):
        letters = "abcdefghijklmnopqrstuvwxyz"
        one = {letter: (-1 if at % 2 else 1, 1) for at, letter in enumerate(letters)}
        text = "a" + "".join(f" {'-' if at % 2 else '+'} {letter}" for at, letter in enumerate(letters) if at)
        self.assertEqual(sum_text(one), text)
        self.assertEqual(read_sum(text), one)

    def test_each_told_is_a_new_one(self):
        for text, one in SUMS.items():
            first = read_sum(text)
            first["spoilt"] = ONE
            self.assertEqual(read_sum(text), one)


class Rows(TextTest):
    def test_told_as_written(self):
        self.assert_texts(ROWS, row_text, read_row)

    def test_each_sort_sum_and_bound(self):
        for sort in SORTS:
            for sum_words, one in SUMS.items():
                for bound_words, bound in FRACTIONS.items():
                    text = f"{sum_words} {sort} {bound_words}"
                    self.assertEqual(row_text((one, sort, bound)), text)
                    self.assertEqual(read_row(text), (one, sort, bound))

    def test_no_text(self):
        self.assert_none(read_row, row_by_hand, NO_ROWS)
        self.assert_none(read_row, row_by_hand, [f"{text} is 0" for text in NO_SUMS])
        self.assert_none(read_row, row_by_hand, [f"x is {text}" for text in NO_FRACTIONS])

    def test_one_sign_otherwise(self):
        self.assert_beside(read_row, row_by_hand, [text for text in ROWS if len(text) < 30])

    def test_there_and_back(self):
        draw = Draw(81)
        for unknowns in ("", "x", "wxyz", ("b", "aa", "a", "zz"), SORTS):
            for top, bottom in ((2, 1), (999, 99), (LONGER, LONG)):
                for name, row in drawn_rows(draw, 10, unknowns, SORTS, top, bottom):
                    self.assertEqual(read_row(row_text(row)), row)
                    self.assertEqual(row_by_hand(row_text(row)), row)


class Parts(TextTest):
    """Points and shares."""

    def test_told_as_written(self):
        for write in (point_text, shares_text):
            self.assertEqual(write({}), "nothing")
            self.assertEqual(write({"x": ONE}), "x = 1")
            self.assertEqual(write({"y": (-3, 4), "x": (12, 1)}), "x = 12, y = -3/4")
            self.assertEqual(write({"b": ONE, "ab": MINUS, "a": (1, 2)}), "a = 1/2, ab = -1, b = 1")

    def test_noughts_in_a_point(self):
        self.assertEqual(point_text({"x": NOUGHT}), "x = 0")
        self.assertEqual(point_text({"y": NOUGHT, "z": ONE, "x": NOUGHT}), "x = 0, y = 0, z = 1")

    def test_drawn_ones(self):
        draw = Draw(82)
        for many in range(1, 9):
            keys = draw.shuffled(["x", "xx", "is", "most", "abcdef", "zz", "a", "nought"])[:many]
            numbers = {key: draw.fraction(*draw.one_of(((2, 1), (LONG, LONGER)))) for key in keys}
            numbers[keys[0]] = pair_of(7)
            wanted = [f"{key} = {number[0]}" + (f"/{number[1]}" if number[1] != 1 else "")
                      for key, number in sorted(numbers.items())]
            for write in (point_text, shares_text):
                self.assertEqual(write(numbers), ", ".join(wanted))


if __name__ == "__main__":
    unittest.main()
