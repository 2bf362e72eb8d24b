"""Rows put otherwise: taken some times, with a sum in the place of an unknown, renamed, and in one plain form."""

from scopestore.errors import NoNames, NoNumber
from scopestore.fractions import MINUS_ONE, NOUGHT, ONE, common_divisor, fraction_of, minus, times
from scopestore.rows import keeps
from scopestore.sums import sum_plus, sum_times

TURNED_SORTS = {"is": "is", "most": "least", "least": "most", "below": "above", "above": "below"}


def row_times(row, number):
    """Tell the row some times, its sort turned where the number is below 0."""
    if number == NOUGHT:
        raise NoNumber("a row is not taken nought times")
    one, sort, bound = row
    told_sort = TURNED_SORTS[sort] if number[0] < 0 else sort
    return (sum_times(one, number), told_sort, times(bound, number))


def row_put(row, unknown, one, number):
    """Tell the row with the sum and the fraction added put in the place of the unknown."""
    old, sort, bound = row
    often = old.get(unknown, NOUGHT)
    rest = {other: old[other] for other in old if other != unknown}
    return (sum_plus(rest, sum_times(one, often)), sort, minus(bound, times(number, often)))


def row_renamed(row, names):
    """Tell the row with each unknown that is a key of the names called by its value."""
    one, sort, bound = row
    told = {names.get(unknown, unknown): one[unknown] for unknown in one}
    if len(told) < len(one):
        raise NoNames("two unlike unknowns would become one")
    return (told, sort, bound)


def whole_maker(numbers):
    """Tell the fraction above 0 by which all the fractions become whole numbers that nothing above 1 divides all.

    The first of them is not nought.
    """
    bottom = 1
    for number in numbers:
        bottom = bottom * number[1] // common_divisor(bottom, number[1])
    divisor = 0
    for number in numbers:
        divisor = common_divisor(divisor, number[0] * (bottom // number[1]))
    return fraction_of(bottom, divisor)


def plain_row(row):
    """Tell the one row that stands for all rows that the same points keep."""
    one, sort, bound = row
    if not one:
        # All points keep it or none does, so any point tells which.
        return ({}, "is", NOUGHT if keeps(row, {}) else ONE)
    maker = whole_maker([one[unknown] for unknown in one] + [bound])
    return row_times(row, maker if one[min(one)][0] > 0 else times(maker, MINUS_ONE))


def same_row(one, other):
    """Tell whether the same points keep both rows."""
    return plain_row(one) == plain_row(other)
