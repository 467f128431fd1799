"""Numbers: fractions in lowest parts, told as tuples (top, bottom) of whole numbers."""

from swaprest.errors import NoNumber

NOUGHT = (0, 1)
ONE = (1, 1)


def is_whole(one):
    """Whether it is a whole number; True and False are none."""
    return isinstance(one, int) and not isinstance(one, bool)


def common_divisor(one, other):
    """The greatest whole number that divides both, 0 where both are 0."""
    high, low = abs(one), abs(other)
    while low != 0:
        high, low = low, high % low
    return high


def is_number(one):
    """Whether it is a tuple (top, bottom) in lowest parts, bottom from 1 on."""
    if not isinstance(one, tuple) or len(one) != 2:
        return False
    top, bottom = one
    if not is_whole(top) or not is_whole(bottom) or bottom < 1:
        return False
    return common_divisor(top, bottom) == 1


def fraction(top, bottom):
    """The number that is worth top divided by bottom."""
    if bottom == 0:
        raise NoNumber("nothing is divided by nought")
    shared = common_divisor(top, bottom)
    # A divisor with the bottom's sign leaves the bottom above 0.
    if bottom < 0:
        shared = -shared
    return (top // shared, bottom // shared)


def plus(one, other):
    """The sum of two numbers."""
    return fraction(one[0] * other[1] + other[0] * one[1], one[1] * other[1])


def less(one, other):
    """The first number less the second."""
    return fraction(one[0] * other[1] - other[0] * one[1], one[1] * other[1])


def times(one, other):
    """The product of two numbers."""
    return fraction(one[0] * other[0], one[1] * other[1])


def over(one, other):
    """The first number divided by the second; nought as the second is refused."""
    return fraction(one[0] * other[1], one[1] * other[0])
