"""Texts of fractions, sums, rows, points and shares; and how the first three are read.

What is read is written again and must be the very text: so just the texts that are so written are read.
"""

from scopestore.errors import NoText
from scopestore.fractions import MINUS_ONE, ONE, fraction_of, times
from scopestore.rows import SORTS
from scopestore.sums import fits_unknown, sum_of

FIGURES = "0123456789"
MOST_FIGURES = 30


def fraction_text(number):
    """Tell how a fraction is written."""
    top, bottom = number
    return str(top) if bottom == 1 else f"{top}/{bottom}"


def term_text(unknown, number):
    """Tell how an unknown is written with its fraction, without the fraction's sign."""
    size = (abs(number[0]), number[1])
    return unknown if size == ONE else f"{fraction_text(size)} {unknown}"


def sum_text(one):
    """Tell how a sum is written."""
    words = []
    for unknown in sorted(one):
        is_below = one[unknown][0] < 0
        term = term_text(unknown, one[unknown])
        if words:
            words.append(f"- {term}" if is_below else f"+ {term}")
        else:
            words.append(f"-{term}" if is_below else term)
    return " ".join(words) if words else "0"


def row_text(row):
    """Tell how a row is written."""
    one, sort, bound = row
    return f"{sum_text(one)} {sort} {fraction_text(bound)}"


def parts_text(numbers):
    """Tell how fractions by unknowns, or by names, are written."""
    if not numbers:
        return "nothing"
    return ", ".join([f"{key} = {fraction_text(numbers[key])}" for key in sorted(numbers)])


def point_text(point):
    """Tell how a point is written."""
    return parts_text(point)


def shares_text(shares):
    """Tell how shares are written."""
    return parts_text(shares)


def read_whole(text):
    """Tell the number that is written by these figures."""
    if not 1 <= len(text) <= MOST_FIGURES or not all(sign in FIGURES for sign in text):
        raise NoText("these are no figures, or too many")
    return int(text)


def read_fraction(text):
    """Tell the fraction that is written so."""
    top, slash, bottom = text.removeprefix("-").partition("/")
    divisor = read_whole(bottom) if slash else 1
    if divisor == 0:
        raise NoText("a fraction has no bottom of 0")
    size = fraction_of(read_whole(top), divisor)
    told = times(size, MINUS_ONE) if text.startswith("-") else size
    if fraction_text(told) != text:
        raise NoText("a fraction is not written so")
    return told


def read_term(words):
    """Tell the pair (unknown, fraction) that the first words write, a sign ahead, and the words behind it."""
    sign, *rest = words
    # The fraction is left out where it is 1.
    at = 0 if rest and fits_unknown(rest[0]) else 1
    if sign not in ("+", "-") or len(rest) <= at or not fits_unknown(rest[at]):
        raise NoText("a sum is not written so")
    size = ONE if at == 0 else read_fraction(rest[0])
    return ((rest[at], size if sign == "+" else times(size, MINUS_ONE)), rest[at + 1:])


def read_sum(text):
    """Tell the sum that is written so."""
    if text == "0":
        return {}
    # With a sign of its own ahead the first term is read as the others are.
    signed = "- " + text[1:] if text.startswith("-") else "+ " + text
    words = signed.split(" ")
    pairs = []
    while words:
        pair, words = read_term(words)
        pairs.append(pair)
    told = sum_of(pairs)
    if sum_text(told) != text:
        raise NoText("a sum is not written so")
    return told


def read_row(text):
    """Tell the row that is written so."""
    # Unknowns may be called like sorts: the last two words are sort and bound.
    words = text.rsplit(" ", 2)
    if len(words) != 3 or words[1] not in SORTS:
        raise NoText("a row is not written so")
    return (read_sum(words[0]), words[1], read_fraction(words[2]))
