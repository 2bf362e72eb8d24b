"""Spans: how small and how great a sum can be where rows are kept; and whether it is fixed.

From where all slacks keep their bounds (see scopestore.slacks) the sum climbs: the first thing that can move it up
moves till the first slack comes to its bound, and changes places with that one. Both are the first by one order of all
things: so it always ends.
"""

from scopestore.errors import NoPoint
from scopestore.fractions import HALF, MINUS_ONE, NOUGHT, ONE, fraction_of, minus, over, times
from scopestore.rows import rows_by_name
from scopestore.slacks import (
    BOUND_ABOVE, BOUND_BELOW, DOWN, UP, first_mover, near_bound, near_less, near_point, near_worth, point_of, settled,
    swapped,
)
from scopestore.sums import moved, sum_plus, sum_times

def settled_rows(rows):
    """Tell the rows by name, and what is written by what where all of them are kept."""
    named = rows_by_name(rows)
    written, stuck = settled(named)
    if stuck is not None:
        raise NoPoint("no point keeps all rows")
    return (named, written)


def aim_of(written, one):
    """Tell a sum of unknowns as a sum of things that are not written."""
    told = {}
    for unknown in sorted(one):
        thing = ("unknown", unknown)
        told = sum_plus(told, sum_times(written.get(thing, {thing: ONE}), one[unknown]))
    return told


def room_of(row, here, pace):
    """Tell how far, as a near number, one may go till a slack that stands here comes to its bound; None if it doesn't.

    The pace is how the slack moves with what is gone, and isn't nought.
    """
    if row[1] not in (BOUND_ABOVE if pace[0] > 0 else BOUND_BELOW):
        return None
    bound = near_bound(row)
    return (over(minus(bound[0], here[0]), pace), over(minus(bound[1], here[1]), pace))


def first_stop(named, written, mover, way):
    """Tell the first name whose slack comes to its bound when the thing moves that way, None where none does."""
    stop, least = None, None
    for name in named:
        one = written.get(("slack", name), {})
        if mover in one:
            room = room_of(named[name], near_worth(named, one), times(one[mover], fraction_of(way)))
            if room is not None and (least is None or near_less(room, least)):
                stop, least = name, room
    return stop


def climbed(named, written, one):
    """Tell what is written by what where the sum climbs no more, and the (thing, way) that leads it on without end.

    That is None where there is an end.
    """
    aim = aim_of(written, one)
    mover = first_mover(named, aim, UP)
    while mover is not None:
        way = UP if aim[mover][0] > 0 else DOWN
        stop = first_stop(named, written, mover, way)
        if stop is None:
            return (written, (mover, way))
        written = swapped(written, ("slack", stop), mover)
        aim = aim_of(written, one)
        mover = first_mover(named, aim, UP)
    return (written, None)


def way_along(written, mover, way):
    """Tell how the unknowns move when the thing moves that way."""
    paces = {thing: written[thing][mover] for thing in written if mover in written[thing]}
    paces[mover] = ONE
    return {thing[1]: times(paces[thing], fraction_of(way)) for thing in sorted(paces) if thing[0] == "unknown"}


def greatest_end(named, written, one):
    """Tell the greatest of a sum: ("at", ..), ("near", ..) or ("without", ..)."""
    written, endless = climbed(named, written, one)
    point = point_of(named, written)
    if endless is not None:
        mover, way = endless
        return ("without", point, way_along(written, mover, way))
    # Nothing can move the sum up, an unknown could: so it is made by slacks at their bounds alone.
    aim = aim_of(written, one)
    shares = {thing[1]: aim[thing] for thing in sorted(aim)}
    worth, tiny = near_worth(named, aim)
    if tiny == NOUGHT:
        return ("at", worth, point, shares)
    return ("near", worth, near_point(named, written)[0], point, shares)


def least_end(named, written, one):
    """Tell the least of a sum: the greatest of it times -1, with the worth of the sum itself."""
    end = greatest_end(named, written, sum_times(one, MINUS_ONE))
    if end[0] == "without":
        return end
    return (end[0], times(end[1], MINUS_ONE)) + end[2:]


def span_of(rows, one):
    """Tell the least and the greatest of a sum where all rows are kept."""
    named, written = settled_rows(rows)
    return (least_end(named, written, one), greatest_end(named, written, one))


def way_to_edge(end):
    """Tell the way that leads from the point of a near end to its edge, gone once."""
    return moved(end[2], end[3], MINUS_ONE)


def two_points(end):
    """Tell two points that keep all rows and give the sum unlike worths, by an end that isn't come to."""
    if end[0] == "near":
        return (end[3], moved(end[3], way_to_edge(end), HALF))
    return (end[1], moved(end[1], end[2], ONE))


def fixed_of(rows, one):
    """Tell ("fixed", worth, above, under) of a sum that has one worth where all rows are kept, else ("free", ..)."""
    least, greatest = span_of(rows, one)
    for end in (least, greatest):
        if end[0] != "at":
            return ("free",) + two_points(end)
    if least[1] != greatest[1]:
        return ("free", least[2], greatest[2])
    return ("fixed", greatest[1], greatest[3], least[3])
