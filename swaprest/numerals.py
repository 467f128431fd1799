"""Numbers: fractions in lowest parts, told as tuples (top, bottom) of whole numbers."""

from swaprest.errors import NoNumber

NOUGHT = (0, 1)
ONE = (1, 1)
MINUS_ONE = (-1, 1)


def is_whole(one):
    """Whether it is a whole number; True and False are none."""
    return isinstance(one, int) and not isinstance(one, bool)


def common_divisor(one, other):
    """The greatest whole number that divides both, 0 where both are 0."""
    high, low = abs(one), abs(other)
    while low != 0:
        high, low = low, high % low
    return high


def is_number(one):
    """Whether it is a tuple (top, bottom) in lowest parts, bottom from 1 on."""
    if not isinstance(one, tuple) or len(one) != 2:
        return False
    top, bottom = one
    if not is_whole(top) or not is_whole(bottom) or bottom < 1:
        return False
    return common_divisor(top, bottom) == 1


def fraction(top, bottom):
    """The number that is worth top divided by bottom."""
    if bottom == 0:
        raise NoNumber("nothing is divided by nought")
    shared = common_divisor(top, bottom)
    # A divisor with the bottom's sign leaves the bottom above 0.
    if bottom < 0:
        shared = -shared
    return (top // shared, bottom // shared)


def plus(one, other):
    """The sum of two numbers."""
    # Of numbers in lowest parts the sum's top and bottom share only what both bottoms do: less to divide by.
    shared = common_divisor(one[1], other[1])
    mine, its = one[1] // shared, other[1] // shared
    top = one[0] * its + other[0] * mine
    again = common_divisor(top, shared)
    return (top // again, mine * (other[1] // again))


def less(one, other):
    """The first number less the second."""
    return plus(one, (-other[0], other[1]))


def times(one, other):
    """The product of two numbers."""
    # In lowest parts a top shares something with the other one's bottom alone.
    mine, its = common_divisor(one[0], other[1]), common_divisor(other[0], one[1])
    return ((one[0] // mine) * (other[0] // its), (one[1] // its) * (other[1] // mine))


def over(one, other):
    """The first number divided by the second; nought as the second is refused."""
    top, bottom = other
    if top == 0:
        raise NoNumber("nothing is divided by nought")
    return times(one, (bottom, top) if top > 0 else (-bottom, -top))
