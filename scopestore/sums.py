"""Sums: dicts from unknowns to fractions, none of them nought; and their worth at a point."""

from scopestore.fractions import NOUGHT, fits_fraction, plus, times

LETTERS = "abcdefghijklmnopqrstuvwxyz"
LONGEST = 6


def without_noughts(numbers):
    """Tell a new dict of the unknowns whose fraction isn't nought."""
    return {unknown: numbers[unknown] for unknown in numbers if numbers[unknown] != NOUGHT}


def sum_of(pairs):
    """Tell the sum of all pairs (unknown, fraction)."""
    numbers = {}
    for unknown, number in pairs:
        numbers[unknown] = plus(numbers.get(unknown, NOUGHT), number)
    # Noughts go last: what comes to nought on the way may be added to again.
    return without_noughts(numbers)


def sum_plus(one, other):
    """Tell the sum of two sums."""
    return sum_of(list(one.items()) + list(other.items()))


def sum_times(one, number):
    """Tell the sum so many times."""
    return without_noughts({unknown: times(one[unknown], number) for unknown in one})


def worth_at(one, point):
    """Tell the worth of a sum at a point, where an unknown that isn't in the point has the worth 0."""
    worth = NOUGHT
    for unknown, number in one.items():
        worth = plus(worth, times(number, point.get(unknown, NOUGHT)))
    return worth


def moved(point, way, often):
    """Tell the point that is reached from a point along a way, gone so often."""
    told = dict(point)
    for unknown, number in way.items():
        told[unknown] = plus(told.get(unknown, NOUGHT), times(number, often))
    return told


def fits_unknown(thing):
    """Tell whether anything is a text of one to six small letters, as unknowns are."""
    if not isinstance(thing, str) or not 1 <= len(thing) <= LONGEST:
        return False
    return all(letter in LETTERS for letter in thing)


def fits_point(thing):
    """Tell whether anything is a point."""
    if not isinstance(thing, dict):
        return False
    return all(fits_unknown(key) and fits_fraction(thing[key]) for key in thing)


def fits_sum(thing):
    """Tell whether anything is a sum."""
    return fits_point(thing) and all(thing[unknown] != NOUGHT for unknown in thing)
