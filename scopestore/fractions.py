"""Fractions: tuples (top, bottom) in lowest terms, the bottom from 1 on."""

from scopestore.errors import NoFraction

NOUGHT = (0, 1)
ONE = (1, 1)
HALF = (1, 2)
MINUS_ONE = (-1, 1)

SHORT_BITS = 256


def common_divisor(a, b):
    """Tell the greatest whole number that divides both, of which not both are 0."""
    a, b = abs(a), abs(b)
    while b > 0:
        a, b = b, a % b
    return a


def fraction_of(top, bottom=1):
    """Tell the fraction that is top divided by bottom."""
    if bottom == 0:
        raise NoFraction("a fraction has no bottom of 0")
    divisor = common_divisor(top, bottom)
    # The bottom is told above 0, so its sign goes out with the divisor.
    if bottom < 0:
        divisor = -divisor
    return (top // divisor, bottom // divisor)


def are_short(a, b):
    """Tell whether the bottoms of two fractions are so short that a divisor is soon found in their product."""
    return a[1].bit_length() + b[1].bit_length() <= SHORT_BITS


def plus(a, b):
    """Tell the sum of two fractions."""
    if are_short(a, b):
        return fraction_of(a[0] * b[1] + b[0] * a[1], a[1] * b[1])
    # Both are in lowest terms, so what divides the sum's top and bottom divides both bottoms: it is looked for there,
    # for in the product of long bottoms that takes far longer.
    shared = common_divisor(a[1], b[1])
    top = a[0] * (b[1] // shared) + b[0] * (a[1] // shared)
    divisor = common_divisor(top, shared)
    return (top // divisor, (a[1] // shared) * (b[1] // divisor))


def minus(a, b):
    """Tell the first fraction less the second."""
    return plus(a, (-b[0], b[1]))


def times(a, b):
    """Tell the product of two fractions."""
    if are_short(a, b):
        return fraction_of(a[0] * b[0], a[1] * b[1])
    # Each is in lowest terms, so only one's top and the other's bottom can have a divisor in common.
    one, other = common_divisor(a[0], b[1]), common_divisor(b[0], a[1])
    return ((a[0] // one) * (b[0] // other), (a[1] // other) * (b[1] // one))


def over(a, b):
    """Tell the first fraction divided by the second."""
    if b[0] == 0:
        raise NoFraction("nothing is divided by nought")
    # The second one is turned over, its bottom being above 0.
    return times(a, (b[1], b[0]) if b[0] > 0 else (-b[1], -b[0]))


def is_less(a, b):
    """Tell whether the first fraction is less than the second."""
    # Bottoms are above 0, so multiplying by both keeps the order.
    return a[0] * b[1] < b[0] * a[1]


def fits_whole(thing):
    """Tell whether anything is a whole number."""
    # Python counts True and False among the integers, the document does not.
    return isinstance(thing, int) and not isinstance(thing, bool)


def fits_fraction(thing):
    """Tell whether anything is a fraction."""
    if not isinstance(thing, tuple) or len(thing) != 2:
        return False
    top, bottom = thing
    if not fits_whole(top) or not fits_whole(bottom):
        return False
    return bottom >= 1 and common_divisor(top, bottom) == 1
