"""Rows: tuples (sum, sort, bound), which points keep or break."""

from scopestore.errors import NoRow
from scopestore.fractions import fits_fraction, is_less
from scopestore.sums import fits_sum, worth_at

SORTS = ("is", "most", "least", "below", "above")


def fits_row(thing):
    """Tell whether anything is a row."""
    if not isinstance(thing, tuple) or len(thing) != 3:
        return False
    one, sort, bound = thing
    # SORTS is a tuple: what can't be a key, a list for one, may be looked for in it.
    return fits_sum(one) and sort in SORTS and fits_fraction(bound)


def row_of(one, sort, bound):
    """Tell the row of a sum, a sort and a bound, each of which may be anything."""
    if not fits_row((one, sort, bound)):
        raise NoRow("these make no row")
    return (dict(one), sort, bound)


def keeps(row, point):
    """Tell whether a point keeps a row."""
    one, sort, bound = row
    worth = worth_at(one, point)
    if sort == "is":
        return worth == bound
    if sort == "most":
        return not is_less(bound, worth)
    if sort == "least":
        return not is_less(worth, bound)
    if sort == "below":
        return is_less(worth, bound)
    return is_less(bound, worth)


def rows_by_name(rows):
    """Tell a dict from names to rows, names and unknowns rising, that has no dict in common with the rows.

    All that is told of rows is reckoned from it: so it can't hang on the order in which they were handed in.
    """
    told = {}
    for name, row in sorted(rows, key=lambda pair: pair[0]):
        one, sort, bound = row
        told[name] = ({unknown: one[unknown] for unknown in sorted(one)}, sort, bound)
    return told


def unknowns_of(named):
    """Tell the unknowns of rows by name, rising."""
    return sorted({unknown for name in named for unknown in named[name][0]})
