"""What the tests share: sample values, and a reckoning of rooms that draws nothing from the program."""

import itertools
from fractions import Fraction
from math import gcd

N = (0, 1)
I = (1, 1)

# Of each kind that may stand in a number's stead, and no number.
NO_NUMBERS = (
    True, False, 0, 1, -7, 10 ** 30, None, "", "1", "(1, 1)", [], [1, 1], [(1, 1)], [[]],
    (), (1,), (0,), ((1, 1),), (1, 1, 1), (1, 2, 3), (0, 1, None),
    (2, 4), (-2, 4), (6, 3), (0, 2), (0, 5), (10 ** 20, 10), (3 ** 40, 3 ** 41),
    (1, 0), (0, 0), (-1, 0), (1, -1), (0, -1), (1, -2), (-3, -2),
    (True, 1), (False, 1), (1, True), (0, True), (True, True), (1, False), (True, 2),
    (None, 1), (1, None), ("1", 1), (1, "1"), ("", ""), ([1], 1), (1, [1]), ((1,), 1), ((1, 1), (1, 1)), ([], []),
)

# Of each kind that may stand in a row's stead, and no list.
NO_LISTS = (
    True, False, 0, 1, 2, -3, None, "", "a", "ab", "row", (), (1, 1), (I,), (I, I), (N, N), (I, I, I), ((1, 1), (1, 2)),
)


def nums(*wholes):
    """A row of whole numbers."""
    return [(one, 1) for one in wholes]


def number(worth):
    """The number of a Fraction."""
    return (worth.numerator, worth.denominator)


def worth(one):
    """The Fraction of a number."""
    return Fraction(one[0], one[1])


def is_plain_number(one):
    """Whether it is a number, each part of the very class int."""
    return (
        one.__class__ is tuple and len(one) == 2
        and one[0].__class__ is int and one[1].__class__ is int
        and one[1] >= 1 and gcd(one[0], one[1]) == 1
    )


def is_plain_row(row, width):
    """Whether it is a list of width numbers."""
    return row.__class__ is list and len(row) == width and all(is_plain_number(one) for one in row)


def pair(one, other):
    """The pairing of two rows, a Fraction."""
    return sum((worth(x) * worth(y) for x, y in zip(one, other)), Fraction(0))


def rank(rows):
    """How many rows the room of the rows needs."""
    left = [[worth(one) for one in row] for row in rows]
    count = 0
    while left:
        row = left.pop()
        at = next((k for k, one in enumerate(row) if one != 0), None)
        if at is None:
            continue
        count += 1
        left = [[x - other[at] / row[at] * y for x, y in zip(other, row)] for other in left]
    return count


def kept_faults(rows, width):
    """What keeps a list from being one of kept rows, in words; "" where nothing does."""
    if rows.__class__ is not list or not all(is_plain_row(row, width) for row in rows):
        return "not a list of rows of the width"
    if any(all(one == N for one in row) for row in rows):
        return "a row of noughts alone"
    leads = [next(k for k, one in enumerate(row) if one != N) for row in rows]
    if any(row[lead] != I for row, lead in zip(rows, leads)):
        return "a lead that isn't 1"
    if any(one >= other for one, other in zip(leads, leads[1:])):
        return "leads that don't rise"
    for at, lead in enumerate(leads):
        if any(row[lead] != N for k, row in enumerate(rows) if k != at):
            return "a number beside a lead"
    return ""


def grids(height, width, wholes):
    """All lists of so many rows of this width with numbers out of the whole ones."""
    for flat in itertools.product(wholes, repeat=height * width):
        yield [nums(*flat[k * width:(k + 1) * width]) for k in range(height)]


def mixed_grid(height, width, salt):
    """Rows of unlike fractions, always the same ones, without a plain rule between them."""
    state = salt
    rows = []
    for _ in range(height):
        row = []
        for _ in range(width):
            state = (state * 6364136223846793005 + 1442695040888963407) & (2 ** 64 - 1)
            row.append(number(Fraction((state >> 33) % 19 - 9, (state >> 50) % 5 + 1)))
        rows.append(row)
    return rows


def unit_rows(width):
    """The kept rows of the whole room."""
    return [[I if at == k else N for at in range(width)] for k in range(width)]
