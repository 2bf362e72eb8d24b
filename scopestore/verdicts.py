"""Verdicts: a point that keeps all rows, or a clash of rows that no point keeps together."""

from scopestore.rows import rows_by_name
from scopestore.slacks import point_of, settled, stuck_shares


def point_without(named, names, name):
    """Tell a point that keeps the rows of all these names but one."""
    others = {other: named[other] for other in names if other != name}
    # In a clash one slack is written by all the others, which are free of each other: without any one none is stuck.
    written, stuck = settled(others)
    return point_of(others, written)


def verdict_of(rows):
    """Tell ("point", point) of a point that keeps all rows, or ("clash", shares, points) where there is none."""
    named = rows_by_name(rows)
    written, stuck = settled(named)
    if stuck is None:
        return ("point", point_of(named, written))
    name, way = stuck
    shares = stuck_shares(written, name, way)
    return ("clash", shares, {other: point_without(named, shares, other) for other in shares})


def points_by_row(rows):
    """Tell, name by name, rising, a point that keeps the rows up to that name, as long as there is one."""
    taken = {}
    told = []
    for name, row in rows_by_name(rows).items():
        taken[name] = row
        written, stuck = settled(taken)
        if stuck is not None:
            break
        told.append((name, point_of(taken, written)))
    return told
