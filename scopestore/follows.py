"""What follows: whether each point that keeps the rows keeps one more row, too."""

from scopestore.fractions import HALF, MINUS_ONE, ONE, is_less, minus, over, plus, times
from scopestore.spans import greatest_end, settled_rows, way_to_edge
from scopestore.sums import moved, sum_times, worth_at


def sides_of(row):
    """Tell what a row says as tuples (sum, bound, strict): the sum is at most the bound, below it where strict."""
    one, sort, bound = row
    strict = sort in ("below", "above")
    upper = (one, bound, strict)
    lower = (sum_times(one, MINUS_ONE), times(bound, MINUS_ONE), strict)
    if sort == "is":
        return [upper, lower]
    return [upper] if sort in ("most", "below") else [lower]


def end_holds_side(end, bound, strict):
    """Tell whether the greatest of a sum, an end, keeps it at most the bound, or below it where strict."""
    if end[0] == "without" or is_less(bound, end[1]):
        return False
    return end[0] == "near" or not strict or end[1] != bound


def beyond_near(end, one, bound):
    """Tell a point that gives the sum more than the bound, which is less than its near end."""
    point = end[3]
    here = worth_at(one, point)
    if is_less(bound, here):
        return point
    # Halfway between where the bound is come to and the edge, which must not be come to.
    part = over(minus(bound, here), minus(end[1], here))
    return moved(point, way_to_edge(end), times(plus(part, ONE), HALF))


def beyond_all(end, one, bound):
    """Tell a point that gives a sum without end more than the bound."""
    point, way = end[1], end[2]
    here = worth_at(one, point)
    if is_less(bound, here):
        return point
    return moved(point, way, plus(over(minus(bound, here), worth_at(one, way)), ONE))


def breaking_point(end, one, bound):
    """Tell a point that keeps all rows and breaks the side that the end doesn't hold."""
    if end[0] == "near":
        return beyond_near(end, one, bound)
    if end[0] == "without":
        return beyond_all(end, one, bound)
    return end[2]


def follows_of(rows, row):
    """Tell ("follows", grounds) where each point that keeps the rows keeps the row, else ("not", point)."""
    named, written = settled_rows(rows)
    grounds = []
    for one, bound, strict in sides_of(row):
        end = greatest_end(named, written, one)
        if not end_holds_side(end, bound, strict):
            return ("not", breaking_point(end, one, bound))
        grounds.append(end[-1])
    return ("follows", grounds)
