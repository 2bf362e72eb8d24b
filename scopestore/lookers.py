"""Lookers: whether a thing, anything, is of a kind; and whether it is a right answer, by what it carries."""

from scopestore.equals import solved_of
from scopestore.follows import sides_of
from scopestore.fractions import MINUS_ONE, NOUGHT, ONE, fits_fraction, is_less, plus, times
from scopestore.rows import fits_row, keeps, rows_by_name
from scopestore.slacks import settled
from scopestore.sums import fits_point, fits_sum, fits_unknown, sum_plus, sum_times, worth_at

STRICT_SORTS = ("below", "above")
EDGE_SORTS = {"is": "is", "most": "most", "below": "most", "least": "least", "above": "least"}


def is_fraction(thing):
    """Tell whether anything is a fraction."""
    return fits_fraction(thing)


def is_sum(thing):
    """Tell whether anything is a sum."""
    return fits_sum(thing)


def is_point(thing):
    """Tell whether anything is a point."""
    return fits_point(thing)


def is_row(thing):
    """Tell whether anything is a row."""
    return fits_row(thing)


def fits_share(sort, thing):
    """Tell whether anything is a share of a row of that sort."""
    if not fits_fraction(thing) or thing == NOUGHT:
        return False
    return sort == "is" or (thing[0] > 0) == (sort in ("most", "below"))


def fits_shares(named, thing):
    """Tell whether anything is shares of the rows by name."""
    if not isinstance(thing, dict):
        return False
    return all(name in named and fits_share(named[name][1], thing[name]) for name in thing)


def is_shares(rows, thing):
    """Tell whether anything is shares of the rows."""
    return fits_shares(rows_by_name(rows), thing)


def made_of(named, shares):
    """Tell the sum and the bound that shares make, and whether they are strict."""
    one, bound, strict = {}, NOUGHT, False
    for name, share in shares.items():
        row = named[name]
        one = sum_plus(one, sum_times(row[0], share))
        bound = plus(bound, times(row[2], share))
        strict = strict or row[1] in STRICT_SORTS
    return (one, bound, strict)


def makes(named, thing, one, bound):
    """Tell whether anything is shares that make just that sum and that bound."""
    return fits_shares(named, thing) and made_of(named, thing)[:2] == (one, bound)


def keeps_all(named, thing):
    """Tell whether anything is a point that keeps all rows."""
    return fits_point(thing) and all(keeps(named[name], thing) for name in named)


def edges_of(named):
    """Tell the rows, each below read as a most and each above as a least."""
    return {name: (named[name][0], EDGE_SORTS[named[name][1]], named[name][2]) for name in named}


def leads_on(named, thing):
    """Tell whether anything is a way along which all rows are kept without end."""
    edges = edges_of(named)
    return keeps_all({name: (edges[name][0], edges[name][1], NOUGHT) for name in edges}, thing)


def is_told(thing, word, many):
    """Tell whether anything is a tuple of so many parts, the word being the first."""
    return isinstance(thing, tuple) and len(thing) == many and thing[0] == word


def fits_line(thing):
    """Tell whether anything is shaped as the lines of solved rows are."""
    if not isinstance(thing, tuple) or len(thing) != 3:
        return False
    return fits_unknown(thing[0]) and fits_sum(thing[1]) and fits_fraction(thing[2])


def shows_none(rows, thing):
    """Tell whether anything is shares that show that no point keeps the rows "is"."""
    named = rows_by_name(rows)
    equals = {name: named[name] for name in named if named[name][1] == "is"}
    if not fits_shares(equals, thing):
        return False
    one, bound, strict = made_of(equals, thing)
    return one == {} and bound[0] < 0


def solved_holds(rows, thing):
    """Tell whether anything is a right answer of solved_of."""
    if is_told(thing, "none", 2):
        return shows_none(rows, thing[1])
    if not is_told(thing, "solved", 2) or not isinstance(thing[1], list):
        return False
    # There is just one such list. Shapes are looked at first, for Python holds True to be like 1.
    return all(fits_line(line) for line in thing[1]) and thing == solved_of(rows)


def shows_clash(named, thing):
    """Tell whether anything is shares that show that no point keeps all rows."""
    if not fits_shares(named, thing):
        return False
    one, bound, strict = made_of(named, thing)
    return one == {} and (bound[0] < 0 or (bound[0] == 0 and strict))


def keeps_others(named, shares, name, thing):
    """Tell whether anything is a point that keeps all rows of the shares but the one of that name."""
    return keeps_all({other: named[other] for other in shares if other != name}, thing)


def spares_each(named, shares, thing):
    """Tell whether anything is a dict from just the names of the shares to points that keep the others of them."""
    if not isinstance(thing, dict) or len(thing) != len(shares):
        return False
    return all(name in thing and keeps_others(named, shares, name, thing[name]) for name in shares)


def verdict_holds(rows, thing):
    """Tell whether anything is a right answer of verdict_of."""
    named = rows_by_name(rows)
    if is_told(thing, "point", 2):
        return keeps_all(named, thing[1])
    return is_told(thing, "clash", 3) and shows_clash(named, thing[1]) and spares_each(named, thing[1], thing[2])


def at_holds(named, one, sign, thing):
    """Tell whether a tuple of four is an end that is come to."""
    word, worth, point, shares = thing
    if not fits_fraction(worth) or not keeps_all(named, point) or worth_at(one, point) != worth:
        return False
    return makes(named, shares, sum_times(one, sign), times(worth, sign))


def near_holds(named, one, sign, thing):
    """Tell whether a tuple of five is an end that is only come near to."""
    word, worth, edge, point, shares = thing
    if not fits_fraction(worth) or not keeps_all(edges_of(named), edge) or worth_at(one, edge) != worth:
        return False
    if not keeps_all(named, point) or not fits_shares(named, shares):
        return False
    return made_of(named, shares) == (sum_times(one, sign), times(worth, sign), True)


def end_holds(named, one, sign, thing):
    """Tell whether anything is the greatest of a sum, where the sign is 1, or the least of it, where it is -1."""
    if is_told(thing, "at", 4):
        return at_holds(named, one, sign, thing)
    if is_told(thing, "near", 5):
        return near_holds(named, one, sign, thing)
    if not is_told(thing, "without", 3):
        return False
    return keeps_all(named, thing[1]) and leads_on(named, thing[2]) and worth_at(one, thing[2])[0] * sign[0] > 0


def span_holds(rows, one, thing):
    """Tell whether anything is a right answer of span_of."""
    if not isinstance(thing, tuple) or len(thing) != 2:
        return False
    named = rows_by_name(rows)
    return end_holds(named, one, MINUS_ONE, thing[0]) and end_holds(named, one, ONE, thing[1])


def has_point(named):
    """Tell whether some point keeps all rows."""
    written, stuck = settled(named)
    return stuck is None


def pins(named, one, worth, above, under):
    """Tell whether above and under, anything, are shares that hold the sum at a worth, anything, from both sides."""
    if not fits_fraction(worth) or not makes(named, above, one, worth):
        return False
    return makes(named, under, sum_times(one, MINUS_ONE), times(worth, MINUS_ONE))


def fixed_holds(rows, one, thing):
    """Tell whether anything is a right answer of fixed_of."""
    named = rows_by_name(rows)
    if is_told(thing, "free", 3):
        if not keeps_all(named, thing[1]) or not keeps_all(named, thing[2]):
            return False
        return worth_at(one, thing[1]) != worth_at(one, thing[2])
    # Shares pin a sum also where no point keeps the rows, and then nothing is told fixed.
    return is_told(thing, "fixed", 4) and pins(named, one, thing[1], thing[2], thing[3]) and has_point(named)


def grounds_side(named, side, thing):
    """Tell whether anything is shares that show one side of a row, as sides_of tells it."""
    one, bound, strict = side
    if not fits_shares(named, thing):
        return False
    made, made_bound, made_strict = made_of(named, thing)
    if made != one or is_less(bound, made_bound):
        return False
    return made_strict or not strict or made_bound != bound


def grounds_hold(named, row, thing):
    """Tell whether anything is a list of shares that show each side of a row."""
    sides = sides_of(row)
    if not isinstance(thing, list) or len(thing) != len(sides):
        return False
    return all(grounds_side(named, side, shares) for side, shares in zip(sides, thing))


def follows_holds(rows, row, thing):
    """Tell whether anything is a right answer of follows_of."""
    named = rows_by_name(rows)
    if is_told(thing, "not", 2):
        return keeps_all(named, thing[1]) and not keeps(row, thing[1])
    return is_told(thing, "follows", 2) and grounds_hold(named, row, thing[1]) and has_point(named)
