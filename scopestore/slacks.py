"""The way to a verdict: each row has a slack, a thing of its own that is the row's sum and has the row's bound.

A thing is a pair, ("unknown", unknown) or ("slack", name): an unknown and a row may be called alike. Some things are
written: each of them is a sum of things that are not. An unknown that isn't written stands at 0, a slack that isn't
written stands at its bound; so what is written by what tells where all things stand.

Where something stands is told as a near number, a pair of fractions (plain, tiny): the plain one and, so often as the
tiny one tells, something above 0 that is smaller than all fractions above 0. By it a bound that may not be come to is
a bound that may.

Rows are here a dict from names to rows, as rows_by_name tells it.
"""

from scopestore.fractions import MINUS_ONE, NOUGHT, ONE, fraction_of, is_less, minus, over, times
from scopestore.rows import unknowns_of
from scopestore.sums import moved, sum_plus, sum_times, worth_at

UP = 1
DOWN = -1

TINY_PARTS = {"is": (0, 1), "most": (0, 1), "least": (0, 1), "below": (-1, 1), "above": (1, 1)}
BOUND_ABOVE = ("is", "most", "below")
BOUND_BELOW = ("is", "least", "above")


def near_less(a, b):
    """Tell whether the first near number is less than the second."""
    return is_less(a[0], b[0]) or (a[0] == b[0] and is_less(a[1], b[1]))


def near_bound(row):
    """Tell the bound of a row as a near number."""
    return (row[2], TINY_PARTS[row[1]])


def stand_of(named, thing):
    """Tell where a thing stands that isn't written."""
    kind, name = thing
    return (NOUGHT, NOUGHT) if kind == "unknown" else near_bound(named[name])


def near_worth(named, one):
    """Tell the worth of a sum of things that are not written."""
    stands = {thing: stand_of(named, thing) for thing in one}
    plain = worth_at(one, {thing: stands[thing][0] for thing in one})
    tiny = worth_at(one, {thing: stands[thing][1] for thing in one})
    return (plain, tiny)


def written_first(named):
    """Tell what is written by what at first: each slack by the unknowns of its row."""
    told = {}
    for name in named:
        one = named[name][0]
        told[("slack", name)] = {("unknown", unknown): one[unknown] for unknown in one}
    return told


def way_back(row, here):
    """Tell which way a slack that stands here must move to its bound, None where it keeps it."""
    bound = near_bound(row)
    if row[1] in BOUND_BELOW and near_less(here, bound):
        return UP
    if row[1] in BOUND_ABOVE and near_less(bound, here):
        return DOWN
    return None


def first_broken(named, written):
    """Tell the first name whose slack breaks its bound, and which way that must move; None where there is none."""
    for name in named:
        slack = ("slack", name)
        # A slack that isn't written stands at its bound.
        if slack in written:
            way = way_back(named[name], near_worth(named, written[slack]))
            if way is not None:
                return (name, way)
    return None


def may_move(named, thing, way):
    """Tell whether a thing that isn't written may move that way from where it stands."""
    kind, name = thing
    if kind == "unknown":
        return True
    return named[name][1] not in (BOUND_ABOVE if way == UP else BOUND_BELOW)


def first_mover(named, one, way):
    """Tell the first thing of a sum that may move so that the sum moves that way, None where there is none."""
    for thing in sorted(one):
        if may_move(named, thing, way if one[thing][0] > 0 else -way):
            return thing
    return None


def put_in(one, thing, other):
    """Tell a sum, with another sum put in the place of a thing."""
    rest = {key: one[key] for key in one if key != thing}
    return sum_plus(rest, sum_times(other, one.get(thing, NOUGHT)))


def swapped(written, leaver, mover):
    """Tell what is written by what when a written thing has changed places with one that it was written by."""
    number = written[leaver][mover]
    rest = {thing: written[leaver][thing] for thing in written[leaver] if thing != mover}
    # leaver = number mover + rest, so mover = leaver / number - rest / number.
    turned = sum_plus({leaver: over(ONE, number)}, sum_times(rest, over(MINUS_ONE, number)))
    told = {thing: put_in(written[thing], mover, turned) for thing in written if thing != leaver}
    told[mover] = turned
    return told


def settled(named):
    """Tell what is written by what in the end, and the (name, way) that nothing can move, None where none breaks.

    The first broken slack and the first mover, both by one order of all things, are taken: so it always ends.
    """
    written = written_first(named)
    broken = first_broken(named, written)
    while broken is not None:
        name, way = broken
        slack = ("slack", name)
        mover = first_mover(named, written[slack], way)
        if mover is None:
            return (written, broken)
        written = swapped(written, slack, mover)
        broken = first_broken(named, written)
    return (written, None)


def stuck_shares(written, name, way):
    """Tell the shares that show a clash where the slack of that name must move that way and nothing can move it."""
    slack = ("slack", name)
    # It is written by slacks alone: an unknown could have moved it.
    one = sum_plus(sum_times(written[slack], fraction_of(way)), {slack: fraction_of(-way)})
    return {thing[1]: one[thing] for thing in sorted(one)}


def tiny_room(row, plain, tiny):
    """Tell how often, at most once, the tiny point may be added to the plain one that the row is still kept."""
    one, sort, bound = row
    gap = minus(bound, worth_at(one, plain))
    pace = worth_at(one, tiny)
    if gap[0] * pace[0] <= 0:
        return ONE
    # Half of what leads to the bound, which a below and an above don't come to.
    half = over(gap, times(pace, fraction_of(2)))
    return half if is_less(half, ONE) else ONE


def near_point(named, written):
    """Tell where the unknowns of the rows stand, as two points: the plain parts and the tiny parts."""
    unknowns = unknowns_of(named)
    worths = {unknown: near_worth(named, written.get(("unknown", unknown), {})) for unknown in unknowns}
    plain = {unknown: worths[unknown][0] for unknown in unknowns}
    tiny = {unknown: worths[unknown][1] for unknown in unknowns}
    return (plain, tiny)


def point_of(named, written):
    """Tell a point that keeps all rows, by what is written by what where no slack breaks its bound."""
    plain, tiny = near_point(named, written)
    often = ONE
    for name in named:
        room = tiny_room(named[name], plain, tiny)
        often = room if is_less(room, often) else often
    return moved(plain, tiny, often)
