"""What several tests look with: it reckons in Python's own fractions and uses nothing of the program."""

import math
from fractions import Fraction

SORTS = ("is", "most", "least", "below", "above")
LONG = 314159265358979323846264338327
LONGER = 999999999999999999999999999999

NO_FRACTIONS = (
    None, True, False, 0, 1, "1", "(1, 1)", "ab", [1, 1], [1, 2], (), (1,), (1, 1, 1), {}, {1: 1, 2: 1},
    (2, 4), (-2, 4), (6, 3), (0, 2), (0, -1), (0, 0), (1, 0), (-1, 0), (1, -1), (-1, -2), (LONG, LONG), (2 * LONG, 2),
    (True, 1), (1, True), (True, True), (False, 1), (0, True), ("1", "1"), ("1", 1), (1, "1"), (None, 1), (1, None),
    ((1, 1), (1, 1)), ([1], [1]), ((1, 2),), (1, (1,)),
)


class Draw:
    """Numbers that look like chance and are the same in each run."""

    def __init__(self, seed):
        self.state = seed * 2 + 1

    def number(self, least, greatest):
        self.state = (self.state * 6364136223846793005 + 1442695040888963407) % 2**64
        return least + (self.state >> 33) % (greatest - least + 1)

    def one_of(self, things):
        return things[self.number(0, len(things) - 1)]

    def fraction(self, top, bottom):
        return pair_of(Fraction(self.number(-top, top), self.number(1, bottom)))

    def shuffled(self, things):
        left, told = list(things), []
        while left:
            told.append(left.pop(self.number(0, len(left) - 1)))
        return told


def pair_of(number):
    """Tell a number of Python's own as the program writes it."""
    number = Fraction(number)
    return (number.numerator, number.denominator)


def fraction_fits(thing):
    """Tell whether a thing is a fraction, its parts being no truths."""
    if type(thing) is not tuple or [type(part) for part in thing] != [int, int]:
        return False
    return thing[1] >= 1 and math.gcd(*thing) == 1


def name_fits(thing):
    return type(thing) is str and 1 <= len(thing) <= 6 and all("a" <= letter <= "z" for letter in thing)


def point_fits(thing):
    return type(thing) is dict and all(name_fits(key) and fraction_fits(thing[key]) for key in thing)


def sum_fits(thing):
    return point_fits(thing) and all(number[0] != 0 for number in thing.values())


def row_fits(thing):
    if type(thing) is not tuple or len(thing) != 3:
        return False
    return sum_fits(thing[0]) and thing[1] in SORTS and fraction_fits(thing[2])


def worth(one, point):
    return sum((Fraction(*one[key]) * Fraction(*point.get(key, (0, 1))) for key in one), Fraction(0))


def kept(row, point):
    """Tell whether a point keeps a row."""
    one, sort, bound = row
    here, bound = worth(one, point), Fraction(*bound)
    return {
        "is": here == bound, "most": here <= bound, "least": here >= bound,
        "below": here < bound, "above": here > bound,
    }[sort]


def keeps_all(rows, point):
    return point_fits(point) and all(kept(row, point) for name, row in rows)


def shares_fit(rows, shares):
    """Tell whether a thing is shares of these rows, as point 10 tells."""
    named = dict(rows)
    if not sum_fits(shares) or not all(name in named for name in shares):
        return False
    signs = {"is": (-1, 1), "most": (1,), "below": (1,), "least": (-1,), "above": (-1,)}
    return all((1 if shares[name][0] > 0 else -1) in signs[named[name][1]] for name in shares)


def made_by(rows, shares):
    """Tell the sum and the bound that shares make, and whether they are strict."""
    named = dict(rows)
    made, bound = {}, Fraction(0)
    for name in shares:
        share = Fraction(*shares[name])
        bound += share * Fraction(*named[name][2])
        for unknown, number in named[name][0].items():
            made[unknown] = made.get(unknown, 0) + share * Fraction(*number)
    strict = any(named[name][1] in ("below", "above") for name in shares)
    return {unknown: made[unknown] for unknown in made if made[unknown] != 0}, bound, strict


def shows_clash(rows, shares):
    """Tell whether a thing is shares of these rows that show that no point keeps all of them."""
    if not shares_fit(rows, shares):
        return False
    made, bound, strict = made_by(rows, shares)
    return made == {} and (bound < 0 or (bound == 0 and strict))


def turned(rows, kind=list):
    """Tell the same rows, each sum's keys the other way round."""
    return kind((name, ({key: one[key] for key in reversed(one)}, sort, bound)) for name, (one, sort, bound) in rows)


def in_other_orders(rows, seed=1):
    """Tell the same rows in some other orders, as tuples and as lists, and with their sums' keys in another order."""
    draw = Draw(seed)
    told = [tuple(rows), list(rows), list(reversed(rows)), turned(rows), turned(rows, tuple), turned(rows[::-1])]
    for kind in (list, tuple, list):
        told.append(kind(draw.shuffled(rows)))
        told.append(turned(draw.shuffled(rows), kind))
    return told


def drawn_sum(draw, unknowns, top, bottom):
    """Draw a sum in which each unknown stands more often than not."""
    told = {}
    for unknown in unknowns:
        number = draw.fraction(top, bottom)
        if draw.number(0, 2) and number[0] != 0:
            told[unknown] = number
    return told


def drawn_rows(draw, many, unknowns, sorts=SORTS, top=4, bottom=2):
    """Draw rows with unlike names, in no order."""
    names = draw.shuffled(["a", "b", "x", "ab", "ba", "zz", "abcdef", "most", "is", "y"])[:many]
    return [
        (name, (drawn_sum(draw, unknowns, top, bottom), draw.one_of(sorts), draw.fraction(top, bottom)))
        for name in names
    ]


def drawn_rows_at(draw, many, unknowns, point, top=999, bottom=99):
    """Draw rows that the point keeps: some just so, some by a little, some by much."""
    told = []
    for name, (one, sort, bound) in drawn_rows(draw, many, unknowns, SORTS, top, bottom):
        here = worth(one, point)
        room = draw.one_of((Fraction(1, 97), Fraction(5), Fraction(900)))
        if sort in ("most", "least"):
            room = draw.one_of((Fraction(0), room))
        sign = {"is": 0, "most": 1, "below": 1, "least": -1, "above": -1}[sort]
        told.append((name, (one, sort, pair_of(here + sign * room))))
    return told


def sum_so_often(one, number):
    """Tell a sum times a number of Python's own."""
    return {key: Fraction(*one[key]) * number for key in one}


def shares_make(rows, shares, one, sign, bound):
    """Tell whether a thing is shares of these rows that make the sum times the sign, with that bound."""
    return shares_fit(rows, shares) and made_by(rows, shares)[:2] == (sum_so_often(one, sign), bound)


def with_edges(rows):
    """Tell the rows, each below read as a most and each above as a least."""
    edges = {"below": "most", "above": "least"}
    return [(name, (one, edges.get(sort, sort), bound)) for name, (one, sort, bound) in rows]


def way_fits(rows, way):
    """Tell whether a thing is a way along which all rows are kept for ever."""
    level = [(name, (one, sort, (0, 1))) for name, (one, sort, bound) in with_edges(rows)]
    return keeps_all(level, way)


def end_right(rows, one, sign, end):
    """Tell whether a thing is the greatest (sign 1) or the least (sign -1) of a sum, as point 16 tells."""
    if type(end) is not tuple or len(end) == 0:
        return False
    if end[0] == "without" and len(end) == 3:
        return keeps_all(rows, end[1]) and way_fits(rows, end[2]) and sign * worth(one, end[2]) > 0
    if end[0] not in ("at", "near") or len(end) != (4 if end[0] == "at" else 5) or not fraction_fits(end[1]):
        return False
    here = Fraction(*end[1])
    if not shares_make(rows, end[-1], one, sign, sign * here) or not keeps_all(rows, end[-2]):
        return False
    if end[0] == "at":
        return worth(one, end[2]) == here
    return made_by(rows, end[-1])[2] and keeps_all(with_edges(rows), end[2]) and worth(one, end[2]) == here


def span_right(rows, one, told):
    """Tell whether a thing is a right answer of span_of."""
    if type(told) is not tuple or len(told) != 2:
        return False
    return end_right(rows, one, -1, told[0]) and end_right(rows, one, 1, told[1])


def fixed_right(rows, one, told):
    """Tell whether a thing is a right answer of fixed_of, of rows that some point keeps."""
    if type(told) is not tuple or len(told) == 0:
        return False
    if told[0] == "free" and len(told) == 3:
        return keeps_all(rows, told[1]) and keeps_all(rows, told[2]) and worth(one, told[1]) != worth(one, told[2])
    if told[0] != "fixed" or len(told) != 4 or not fraction_fits(told[1]):
        return False
    here = Fraction(*told[1])
    return shares_make(rows, told[2], one, 1, here) and shares_make(rows, told[3], one, -1, -here)


def ground_right(rows, row, sign, shares):
    """Tell whether shares show that the row's sum times the sign is at most, or below, its bound times the sign."""
    one, sort, bound = row
    if not shares_fit(rows, shares):
        return False
    made, made_bound, strict = made_by(rows, shares)
    bound = sign * Fraction(*bound)
    short = made_bound < bound or (made_bound == bound and (strict or sort not in ("below", "above")))
    return made == sum_so_often(one, sign) and short


def follows_right(rows, row, told):
    """Tell whether a thing is a right answer of follows_of, of rows that some point keeps."""
    if type(told) is not tuple or len(told) != 2:
        return False
    if told[0] == "not":
        return keeps_all(rows, told[1]) and not kept(row, told[1])
    signs = {"is": (1, -1), "most": (1,), "below": (1,), "least": (-1,), "above": (-1,)}[row[1]]
    if told[0] != "follows" or type(told[1]) is not list or len(told[1]) != len(signs):
        return False
    return all(ground_right(rows, row, sign, shares) for sign, shares in zip(signs, told[1]))


def parts(one, bound):
    """Tell a row's numbers, its bound behind None, in Python's own fractions."""
    told = {key: Fraction(*one[key]) for key in one}
    return {**told, None: Fraction(*bound)}


def added(row, other, number):
    told = {key: row.get(key, 0) + number * other.get(key, 0) for key in {**row, **other}}
    return {key: told[key] for key in told if told[key] != 0 or key is None}


def expected_lines(rows):
    """Tell the lines by a way that is not the program's: row by row, each put into those before it; None if none."""
    lines = {}
    for _, (one, sort, bound) in rows:
        row = parts(one, bound) if sort == "is" else {None: Fraction(0)}
        for lead in sorted(lines):
            row = added(row, lines[lead], -row.get(lead, 0))
        unknowns = sorted(key for key in row if key is not None)
        if not unknowns:
            if row[None] != 0:
                return None
            continue
        lead = unknowns[0]
        row = added({None: Fraction(0)}, row, 1 / row[lead])
        lines = {other: added(lines[other], row, -lines[other].get(lead, 0)) for other in lines}
        lines[lead] = row
    return [
        (lead, {key: pair_of(-lines[lead][key]) for key in lines[lead] if key not in (lead, None)},
         pair_of(lines[lead][None]))
        for lead in sorted(lines)
    ]


def solved_right(rows, told):
    """Tell whether a thing is a right answer of solved_of."""
    if type(told) is not tuple or len(told) != 2:
        return False
    equals = [(name, row) for name, row in rows if row[1] == "is"]
    if told[0] == "none":
        return shares_fit(equals, told[1]) and made_by(equals, told[1])[0] == {} and made_by(equals, told[1])[1] < 0
    if told[0] != "solved" or type(told[1]) is not list:
        return False
    for line in told[1]:
        if type(line) is not tuple or len(line) != 3 or not name_fits(line[0]):
            return False
        if not sum_fits(line[1]) or not fraction_fits(line[2]):
            return False
    return told[1] == expected_lines(rows)


def verdict_right(rows, told):
    """Tell whether a thing is a right answer of verdict_of."""
    if type(told) is not tuple or len(told) not in (2, 3):
        return False
    if told[0] == "point" and len(told) == 2:
        return keeps_all(rows, told[1])
    if told[0] != "clash" or len(told) != 3 or not shows_clash(rows, told[1]):
        return False
    shares, points = told[1:]
    if type(points) is not dict or set(points) != set(shares):
        return False
    others = {name: [pair for pair in rows if pair[0] in shares and pair[0] != name] for name in shares}
    return all(keeps_all(others[name], points[name]) for name in shares)
