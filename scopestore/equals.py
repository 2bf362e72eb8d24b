"""Rows of the sort is, looked at alone: how they are solved, and by which steps."""

from scopestore.errors import NoStep
from scopestore.fractions import MINUS_ONE, NOUGHT, ONE, fits_fraction, over, plus, times
from scopestore.rows import rows_by_name, unknowns_of
from scopestore.sums import sum_plus, sum_times


def equals_by_name(rows):
    """Tell the rows "is" by name, rising."""
    named = rows_by_name(rows)
    return {name: named[name] for name in named if named[name][1] == "is"}


def names_row(equals, thing):
    """Tell whether anything is a name of one of the rows."""
    return isinstance(thing, str) and thing in equals


def fits_times(equals, step):
    """Tell whether a tuple of three is a step that takes a row some times."""
    word, name, number = step
    return word == "times" and names_row(equals, name) and fits_fraction(number) and number != NOUGHT


def fits_add(equals, step):
    """Tell whether a tuple of four is a step that adds a row to another."""
    word, name, other, number = step
    if word != "add" or not names_row(equals, name) or not names_row(equals, other):
        return False
    return name != other and fits_fraction(number)


def fits_step(equals, step):
    """Tell whether anything is a step that can be done to the rows."""
    if not isinstance(step, tuple):
        return False
    if len(step) == 3:
        return fits_times(equals, step)
    return len(step) == 4 and fits_add(equals, step)


def row_behind(equals, step):
    """Tell the row that a step names first as it stands behind the step."""
    one, sort, bound = equals[step[1]]
    number = step[-1]
    if step[0] == "times":
        return (sum_times(one, number), sort, times(bound, number))
    other = equals[step[2]]
    return (sum_plus(one, sum_times(other[0], number)), sort, plus(bound, times(other[2], number)))


def stepped(rows, steps):
    """Tell the pairs (name, row) of the rows "is", rising by name, as they stand behind all steps."""
    equals = equals_by_name(rows)
    for step in steps:
        if not fits_step(equals, step):
            raise NoStep("this is no step, or it names no row of the sort is")
        equals[step[1]] = row_behind(equals, step)
    return list(equals.items())


def clearing_steps(equals, name, unknown):
    """Tell the steps behind which the unknown stands once in the row of that name and in no other row."""
    number = equals[name][0][unknown]
    told = []
    if number != ONE:
        told.append(("times", name, over(ONE, number)))
    for other in equals:
        if other != name and unknown in equals[other][0]:
            told.append(("add", other, name, times(equals[other][0][unknown], MINUS_ONE)))
    return told


def steps_of(rows):
    """Tell steps behind which each unknown that can lead a row leads one and stands in no other row."""
    equals = equals_by_name(rows)
    told = []
    leading = {}
    unknowns = unknowns_of(equals)
    # The unknowns come rising, so the one that leads a row is the least that the row has in the end.
    for unknown in unknowns:
        able = [name for name in equals if name not in leading and unknown in equals[name][0]]
        if able:
            leading[able[0]] = True
            clearing = clearing_steps(equals, able[0], unknown)
            for step in clearing:
                equals[step[1]] = row_behind(equals, step)
                told.append(step)
    return told


def line_of(one, bound):
    """Tell the line (unknown, sum, fraction) of a row "is" that is led by its least unknown, once."""
    lead = min(one)
    rest = {unknown: one[unknown] for unknown in one if unknown != lead}
    return (lead, sum_times(rest, MINUS_ONE), bound)


def shares_behind(rows, steps, name):
    """Tell the shares that make the row of that name as it stands behind the steps."""
    # Names are written as unknowns are: rows that are their own names alone end, by the same steps, as shares.
    marked = [(other, ({other: ONE}, "is", NOUGHT)) for other in equals_by_name(rows)]
    return dict(stepped(marked, steps))[name][0]


def solved_of(rows):
    """Tell ("solved", lines) of the rows "is", or ("none", shares) where no point keeps them all."""
    steps = steps_of(rows)
    lines = []
    for name, (one, sort, bound) in stepped(rows, steps):
        if one:
            lines.append(line_of(one, bound))
        elif bound != NOUGHT:
            shares = shares_behind(rows, steps, name)
            return ("none", shares if bound[0] < 0 else sum_times(shares, MINUS_ONE))
    return ("solved", sorted(lines, key=lambda line: line[0]))
