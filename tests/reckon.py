"""What the tests share: sample values, ways to ask, and a reckoning of rooms, tables and words of its own."""

import itertools
import unittest
from fractions import Fraction
from math import gcd

from swaprest.errors import SwapError
from swaprest.tables import Table

N = (0, 1)
I = (1, 1)

# Of each kind that may stand in a number's stead, and no number.
NO_NUMBERS = (
    True, False, 0, 1, -7, 10 ** 30, None, "", "1", "(1, 1)", [], [1, 1], [(1, 1)], [[]],
    (), (1,), (0,), ((1, 1),), (1, 1, 1), (1, 2, 3), (0, 1, None),
    (2, 4), (-2, 4), (6, 3), (0, 2), (0, 5), (10 ** 20, 10), (3 ** 40, 3 ** 41),
    (1, 0), (0, 0), (-1, 0), (1, -1), (0, -1), (1, -2), (-3, -2),
    (True, 1), (False, 1), (1, True), (0, True), (True, True), (1, False), (True, 2),
    (None, 1), (1, None), ("1", 1), (1, "1"), ("", ""), ([1], 1), (1, [1]), ((1,), 1), ((1, 1), (1, 1)), ([], []),
)

# Of each kind that may stand in a row's stead, and no list.
NO_LISTS = (
    True, False, 0, 1, 2, -3, None, "", "a", "ab", "row", (), (1, 1), (I,), (I, I), (N, N), (I, I, I), ((1, 1), (1, 2)),
)


def nums(*wholes):
    """A row of whole numbers."""
    return [(one, 1) for one in wholes]


def number(worth):
    """The number of a Fraction."""
    return (worth.numerator, worth.denominator)


def worth(one):
    """The Fraction of a number."""
    return Fraction(one[0], one[1])


def is_plain_number(one):
    """Whether it is a number, each part of the very class int."""
    return (
        one.__class__ is tuple and len(one) == 2
        and one[0].__class__ is int and one[1].__class__ is int
        and one[1] >= 1 and gcd(one[0], one[1]) == 1
    )


def is_plain_row(row, width):
    """Whether it is a list of width numbers."""
    return row.__class__ is list and len(row) == width and all(is_plain_number(one) for one in row)


def pair(one, other):
    """The pairing of two rows, a Fraction."""
    return sum((worth(x) * worth(y) for x, y in zip(one, other)), Fraction(0))


def rank(rows):
    """How many rows the room of the rows needs."""
    left = [[worth(one) for one in row] for row in rows]
    count = 0
    while left:
        row = left.pop()
        at = next((k for k, one in enumerate(row) if one != 0), None)
        if at is None:
            continue
        count += 1
        left = [[x - other[at] / row[at] * y for x, y in zip(other, row)] for other in left]
    return count


def kept_faults(rows, width):
    """What keeps a list from being one of kept rows, in words; "" where nothing does."""
    if rows.__class__ is not list or not all(is_plain_row(row, width) for row in rows):
        return "not a list of rows of the width"
    if any(all(one == N for one in row) for row in rows):
        return "a row of noughts alone"
    leads = [next(k for k, one in enumerate(row) if one != N) for row in rows]
    if any(row[lead] != I for row, lead in zip(rows, leads)):
        return "a lead that isn't 1"
    if any(one >= other for one, other in zip(leads, leads[1:])):
        return "leads that don't rise"
    for at, lead in enumerate(leads):
        if any(row[lead] != N for k, row in enumerate(rows) if k != at):
            return "a number beside a lead"
    return ""


def grids(height, width, wholes):
    """All lists of so many rows of this width with numbers out of the whole ones."""
    for flat in itertools.product(wholes, repeat=height * width):
        yield [nums(*flat[k * width:(k + 1) * width]) for k in range(height)]


def mixed_grid(height, width, salt):
    """Rows of unlike fractions, always the same ones, without a plain rule between them."""
    state = salt
    rows = []
    for _ in range(height):
        row = []
        for _ in range(width):
            state = (state * 6364136223846793005 + 1442695040888963407) & (2 ** 64 - 1)
            row.append(number(Fraction((state >> 33) % 19 - 9, (state >> 50) % 5 + 1)))
        rows.append(row)
    return rows


def unit_rows(width):
    """The kept rows of the whole room."""
    return [[I if at == k else N for at in range(width)] for k in range(width)]


def drawn(salt, many, below):
    """So many whole numbers from 0 on, below a bound, always the same ones for a salt."""
    state = salt * 2654435761 + 12345
    found = []
    for _ in range(many):
        state = (state * 6364136223846793005 + 1442695040888963407) & (2 ** 64 - 1)
        found.append((state >> 33) % below)
    return found


def shape(thing):
    """What is seen of a thing: its worth and the classes of all that is in it."""
    if isinstance(thing, Table):
        return ("Table", shape(thing.count), shape(thing.leavings))
    if isinstance(thing, (list, tuple)):
        return (thing.__class__.__name__, *[shape(one) for one in thing])
    return (thing.__class__.__name__, thing)


def spoil(thing):
    """Put something else in the stead of all that the lists within a thing hold."""
    if isinstance(thing, (list, tuple)):
        for one in thing:
            spoil(one)
    if isinstance(thing, list):
        thing[:] = ["spoiled"]


class Case(unittest.TestCase):
    """Asks, and sees along the way to what holds for every answer and every refusal."""

    def ask(self, told_by, *handed):
        """What is told; handed things stay as they were, and asked again the same is told in lists of its own."""
        before = shape(handed)
        first = told_by(*handed)
        wanted = shape(first)
        self.assertTrue(shape(handed) == before, "what was handed in was changed")
        spoil(first)
        self.assertTrue(shape(handed) == before, "a told list is one that was handed in")
        told = told_by(*handed)
        self.assertTrue(shape(told) == wanted, "asked again, another answer was told")
        return told

    def refused(self, told_by, handed, wanted, **fields):
        """That the handed things are refused by just this class, with these fields, and stay as they were."""
        before = shape(handed)
        for _ in range(2):
            with self.assertRaises(SwapError, msg=repr(handed)) as caught:
                told_by(*handed)
            self.assertIs(caught.exception.__class__, wanted, repr(handed))
            for name, worth_of_it in fields.items():
                self.assertEqual(shape(getattr(caught.exception, name)), shape(worth_of_it), repr(handed))
        self.assertTrue(shape(handed) == before, "what was refused was changed")


# Leavings of tables that keep the rule, by what they are known as, with their counts.
KEEPS = {
    "one way": (1, []),
    "nothing left of two": (2, []),
    "nothing left of six": (6, []),
    "turns and moves": (2, [(0, 1, nums(0, 1, 0))]),
    "place and push": (2, [(0, 1, nums(0, 0, 1))]),
    "third and alone": (2, [(0, 1, [(1, 2), (-3, 1), (5, 7)])]),
    "three in a row": (3, [(0, 1, nums(0, 0, 1, 0))]),
    "two by two": (3, [(0, 1, nums(0, 2, 0, 0)), (0, 2, nums(0, 0, -2, 0)), (1, 2, nums(1, 0, 0, 0))]),
    "round": (3, [(0, 1, nums(0, 0, 1, 0)), (1, 2, nums(1, 0, 0, 0)), (0, 2, nums(0, -1, 0, 0))]),
    "two by two, shifted": (
        3, [(1, 2, [(1, 1), N, N, (1, 3)]), (0, 1, [N, (2, 1), N, (-4, 1)]), (0, 2, [N, N, (-2, 1), (1, 1)])]
    ),
    "grown by a turn": (4, [(0, 1, nums(0, 1, 0, 0, 0)), (0, 2, nums(0, 1, 1, 0, 0)), (0, 3, nums(0, 0, 0, 2, 0))]),
    "all of two by two": (4, [
        (0, 1, nums(0, 1, 0, 0, 0)), (0, 2, nums(0, 0, -1, 0, 0)), (1, 2, nums(1, 0, 0, -1, 0)),
        (1, 3, nums(0, 1, 0, 0, 0)), (2, 3, nums(0, 0, -1, 0, 0)),
    ]),
    "two letters, three deep": (
        5, [(1, 2, nums(0, 0, 0, 0, 1, 0)), (0, 1, nums(0, 0, 1, 0, 0, 0)), (0, 2, nums(0, 0, 0, 1, 0, 0))]
    ),
    "two places, two pushes": (4, [(0, 2, nums(0, 0, 0, 0, 1)), (1, 3, [N, N, N, N, (1, 2)])]),
}

# Leavings of tables that break the rule.
BREAKS = {
    "in a ring": (3, [(0, 1, nums(0, 0, 1, 0)), (0, 2, nums(1, 0, 0, 5)), (1, 2, nums(1, 0, 0, 0))]),
    "alone only": (3, [(0, 1, nums(0, 1, 0, 0)), (0, 2, nums(0, 0, 1, 0)), (1, 2, nums(0, 0, 0, 7))]),
    "thirds": (3, [(1, 2, [(1, 3), N, (-2, 5), I]), (0, 1, [N, (4, 1), (1, 2), N]), (0, 2, [I, I, N, (-1, 6)])]),
    "the last three": (4, [(1, 2, nums(0, 0, 0, 1, 0)), (1, 3, nums(0, 1, 0, 0, 1)), (2, 3, nums(0, 0, 1, 0, 0))]),
    "late": (6, [(0, 1, nums(0, 1, 0, 0, 0, 0, 0)), (3, 4, nums(0, 0, 0, 0, 1, 0, 0)), (4, 5, nums(1, 0, 0, 0, 0, 0, 2))]),
}


def mixed_leavings(count, salt):
    """Leavings of most of the two ways, with unlike fractions, in mixed order."""
    pairs = list(itertools.combinations(range(count), 2))
    rows = mixed_grid(len(pairs), count + 1, salt)
    leavings = [(i, j, row) for (i, j), row, many in zip(pairs, rows, drawn(salt, len(pairs), 4)) if many]
    return [one for _, one in sorted(zip(drawn(salt + 1, len(leavings), 1000), leavings))]


def left_row(count, leavings, one, other):
    """What is left of two things, by the words of point 9: the sum over all i, j."""
    rows = {(i, j): row for i, j, row in leavings}
    total = [Fraction(0)] * (count + 1)
    for i, j in itertools.product(range(count), repeat=2):
        if one[i] == N or other[j] == N or ((i, j) not in rows and (j, i) not in rows):
            continue
        for at in range(count + 1):
            part = worth(rows[i, j][at]) if (i, j) in rows else -worth(rows[j, i][at])
            total[at] += worth(one[i]) * worth(other[j]) * part
    return [number(one) for one in total]


def sum_rows(*rows):
    """Rows added place by place."""
    return [number(sum(worth(one) for one in ones)) for ones in zip(*rows)]


def times_row(weight, row):
    """A row with each number times the weight."""
    return [number(worth(weight) * worth(one)) for one in row]


def first_break(count, leavings):
    """The first three ways whose round sum isn't nought, and it; None where there are none."""
    units = unit_rows(count + 1)
    for i, j, k in itertools.combinations(range(count), 3):
        parts = [
            left_row(count, leavings, units[a], left_row(count, leavings, units[b], units[c]))
            for a, b, c in ((i, j, k), (j, k, i), (k, i, j))
        ]
        if sum_rows(*parts) != [N] * (count + 1):
            return (i, j, k, sum_rows(*parts))
    return None


def field_of(leavings):
    """The field leavings of the table that is made of them."""
    return tuple(sorted((i, j, tuple(row)) for i, j, row in leavings if any(one != N for one in row)))


def table_of(name):
    """One of the tables above."""
    return Table(*{**KEEPS, **BREAKS}[name])


def word_key(word):
    """What words are sorted by."""
    return (len(word), word)


def sum_of(terms):
    """The sum of a dict of words with Fractions."""
    return [(word, number(Fraction(terms[word]))) for word in sorted(terms, key=word_key) if terms[word] != 0]


def terms_of(total):
    """The dict of a sum."""
    return {word: worth(one) for word, one in total}


def is_plain_sum(total, count):
    """Whether it is a sum of words of so many ways."""
    if total.__class__ is not list or any(term.__class__ is not tuple or len(term) != 2 for term in total):
        return False
    for word, one in total:
        if word.__class__ is not tuple or len(word) > 5 or not is_plain_number(one) or one == N:
            return False
        if any(way.__class__ is not int or not 0 <= way < count for way in word):
            return False
    keys = [word_key(word) for word, _ in total]
    return all(one < other for one, other in zip(keys, keys[1:]))


def falls(word):
    """The places at which a word falls."""
    return [place for place in range(len(word) - 1) if word[place] > word[place + 1]]


def is_rising(total):
    """Whether all words of a sum are rising."""
    return not any(falls(word) for word, _ in total)


def step_done(leavings, terms, word, place):
    """The dict behind a step, by the words of point 13."""
    x, y = word[place], word[place + 1]
    left = next((row for i, j, row in leavings if (i, j) == (y, x)), [])
    found = dict(terms)
    c = found.pop(word)
    came = [(word[:place] + (y, x) + word[place + 2:], c)]
    for k, r in enumerate(left[:-1]):
        came.append((word[:place] + (k,) + word[place + 2:], -c * worth(r)))
    if left:
        came.append((word[:place] + word[place + 2:], -c * worth(left[-1])))
    for other, one in came:
        found[other] = found.get(other, 0) + one
    return {other: one for other, one in found.items() if one != 0}


def rise_by(leavings, terms, pick):
    """The dict of rising words to which steps lead, each picked from the list of all that may be done."""
    while True:
        steps = [(word, place) for word in sorted(terms, key=word_key) for place in falls(word)]
        if not steps:
            return terms
        terms = step_done(leavings, terms, *pick(steps))


def rise_plain(leavings, total):
    """The risen sum, reckoned by the last step that may be done."""
    return sum_of(rise_by(leavings, terms_of(total), lambda steps: steps[-1]))


def add_terms(*weighed):
    """The dict of sums, each with a number before it."""
    found = {}
    for weight, total in weighed:
        for word, one in total:
            found[word] = found.get(word, 0) + Fraction(weight) * worth(one)
    return found


def joined_words(one, other):
    """The sum of all words of the one with a word of the other behind."""
    found = {}
    for first, x in one:
        for second, y in other:
            found[first + second] = found.get(first + second, 0) + worth(x) * worth(y)
    return sum_of(found)


def mixed_sum(count, long, many, salt):
    """A sum of about so many words of up to so many ways."""
    found = {}
    for k in range(many):
        length, top, low, *ways = drawn(salt * 100 + k, long + 3, 60)
        word = tuple(way % count for way in ways[:length % (long + 1)])
        found[word] = Fraction(top % 11 - 5, low % 3 + 1)
    return sum_of(found)


def rising_words(count, most):
    """All rising words of at most so many ways, in order."""
    return [word for long in range(most + 1) for word in itertools.combinations_with_replacement(range(count), long)]


def is_bare(leavings):
    """Whether no leaving has a number alone."""
    return all(row[-1] == N for _, _, row in leavings)


def wrong_terms(count):
    """What is no term of a sum of words of so many ways."""
    found = [None, True, 0, "", "ab", [], [(), I], (), ((),), ((), I, I), (I, ()), (((), I),), [((), I)], ((0,), I, 0)]
    found += [((0,), one) for one in NO_NUMBERS] + [((), one) for one in NO_NUMBERS] + [((0,), N), ((), N)]
    ways = (count, count + 1, -1, 60, 10 ** 30, True, False, None, "", "0", [], [0], (), (0,), (1, 1))
    found += [((way,), I) for way in ways] + [((0, way), I) for way in ways] + [((way, 0, 0, 0, 0), I) for way in ways]
    found += [((0, 0, 0, 0, 0, 0), I), ((0,) * 7, I), ((0,) * 60, I), ((0, 0, 0, 0, 0, None), I)]
    found += [(word, I) for word in (None, True, 0, 1, "", "0", [], [0], [0, 0], [()])]
    return found


# A sum of words of three ways or letters.
GOOD = [((), (2, 3)), ((1,), I), ((2,), (-1, 1)), ((0, 1), I), ((1, 0), (5, 2)), ((2, 1, 0, 0, 1), I)]


def out_of_order():
    """Lists with words twice or in the wrong order, and the first place at which they are no sum."""
    return [
        ([((), I), ((), I)], 1),
        ([((0,), I), ((), I)], 1),
        ([((0,), I), ((0,), I)], 1),
        ([((0,), I), ((0,), (2, 1))], 1),
        ([((1,), I), ((0,), I)], 1),
        ([((0, 0), I), ((2,), I)], 1),
        ([((0, 1), I), ((0, 0), I)], 1),
        ([((1, 0), I), ((0, 2), I)], 1),
        ([((), I), ((1, 2, 0), I), ((1, 1, 2), I)], 2),
        ([((), I), ((0,), I), ((1,), I), ((1,), I), ((2,), I)], 3),
        ([((), I), ((1,), I), ((0,), I), ((2,), I), ((2,), I)], 2),
        ([((), I), ((0,), I), ((0, 0), I), ((2,), I)], 3),
        ([((0, 0, 0, 0, 1), I), ((0, 0, 0, 0, 0), I)], 1),
        ([((0, 0, 0, 0, 0), I), ((2, 2, 2, 2), I)], 1),
        (GOOD + [((2, 1, 0, 0, 1), I)], 6),
        (GOOD + [((0, 1), I)], 6),
        (GOOD[:3] + [GOOD[1]] + GOOD[3:], 3),
        (GOOD[::-1], 1),
    ]


def no_sums():
    """Lists that are no sums of words of three ways or letters, and the first place at which they are none."""
    found = [([wrong], 0) for wrong in wrong_terms(3)] + out_of_order()
    picked = [((0, 1), N), ((0, 2), (2, 4)), ((0, 0, 0, 0, 0, 0), I), ((0, 3), I), ((0, -1), I), ((0, True), I), None, []]
    for place in range(len(GOOD) + 1):
        found += [(GOOD[:place] + [wrong] + GOOD[place:], place) for wrong in picked]
    found += [([((1,), I), ((0,), I), None], 1), ([((1,), I), None, ((0,), I)], 1), ([((1,), N), ((0,), I)], 0)]
    return found


def after_plain(one, other):
    """The square that moves as the other and then the one do."""
    return [[number(sum((worth(a) * worth(b) for a, b in zip(row, column)), Fraction(0))) for column in zip(*other)] for row in one]


def moved_plain(square, row):
    """The row to which a square moves a row."""
    return [number(pair(line, row)) for line in square]


def still(side):
    """The square that moves no row."""
    return unit_rows(side)


def blank(side):
    """The square of noughts."""
    return [[N] * side for _ in range(side)]


def sum_squares(side, *weighed):
    """The sum of squares, each with a number (a Fraction or a whole number) before it."""
    return [
        [number(sum((Fraction(weight) * worth(square[r][k]) for weight, square in weighed), Fraction(0))) for k in range(side)]
        for r in range(side)
    ]


def swap_squares(one, other):
    """The after of two squares less that of both the other way about."""
    return sum_squares(len(one), (1, after_plain(one, other)), (-1, after_plain(other, one)))


def fault_plain(count, leavings, squares):
    """The first two ways at which squares are no acting, by the words of point 23."""
    rows = {(i, j): row for i, j, row in leavings}
    side = len(squares[0])
    for i, j in itertools.combinations(range(count), 2):
        row = rows.get((i, j), [N] * (count + 1))
        wanted = sum_squares(side, *[(worth(one), square) for one, square in zip(row, squares + [still(side)])])
        if swap_squares(squares[i], squares[j]) != wanted:
            return (i, j)
    return None


def whole_square(*rows):
    """A square of whole numbers."""
    return [nums(*row) for row in rows]


def shifted(squares, *worths):
    """Squares with the one that moves no row added to each, times its number."""
    return [sum_squares(len(square), (1, square), (one, still(len(square)))) for square, one in zip(squares, worths)]


def side_by_side(*lists):
    """The acting that moves the parts of a row each by its own acting."""
    found = []
    for squares in zip(*lists):
        side = sum(len(square) for square in squares)
        total, at = blank(side), 0
        for square in squares:
            for r, row in enumerate(square):
                total[at + r][at:at + len(square)] = row
            at += len(square)
        found.append(total)
    return found


def seen_from(squares, turn, back):
    """The acting seen from other rows, turn and back undoing one another."""
    return [after_plain(turn, after_plain(square, back)) for square in squares]


TURN = {
    2: (whole_square((1, 2), (1, 3)), whole_square((3, -2), (-1, 1))),
    3: (whole_square((1, 2, 0), (0, 1, -1), (1, 2, 1)), whole_square((3, -2, -2), (-1, 1, 1), (-1, 0, 1))),
    4: (
        whole_square((1, 1, 0, 0), (0, 1, 1, 0), (0, 0, 1, 1), (0, 0, 0, 1)),
        whole_square((1, -1, 1, -1), (0, 1, -1, 1), (0, 0, 1, -1), (0, 0, 0, 1)),
    ),
}

# Of the table "two by two": the way 0 stretches, 1 moves up, 2 moves down.
SPIN = {
    1: [whole_square((0,))] * 3,
    2: [whole_square((1, 0), (0, -1)), whole_square((0, 1), (0, 0)), whole_square((0, 0), (1, 0))],
    3: [
        whole_square((2, 0, 0), (0, 0, 0), (0, 0, -2)), whole_square((0, 2, 0), (0, 0, 1), (0, 0, 0)),
        whole_square((0, 0, 0), (1, 0, 0), (0, 2, 0)),
    ],
    4: [
        whole_square((3, 0, 0, 0), (0, 1, 0, 0), (0, 0, -1, 0), (0, 0, 0, -3)),
        whole_square((0, 3, 0, 0), (0, 0, 2, 0), (0, 0, 0, 1), (0, 0, 0, 0)),
        whole_square((0, 0, 0, 0), (1, 0, 0, 0), (0, 2, 0, 0), (0, 0, 3, 0)),
    ],
}
STEP = whole_square((0, 1), (0, 0))
ENTRIES = [whole_square((1, 0), (0, 0)), whole_square((0, 1), (0, 0)), whole_square((0, 0), (1, 0)), whole_square((0, 0), (0, 1))]


def all_actings():
    """Tuples (name of a table that keeps the rule, an acting of it)."""
    found = [("two by two", squares) for squares in SPIN.values()]
    found += [("two by two", seen_from(SPIN[side], *TURN[side])) for side in (2, 3, 4)]
    found += [("two by two", side_by_side(SPIN[one], SPIN[other])) for one, other in ((1, 1), (1, 2), (2, 1), (2, 2), (1, 3))]
    found += [("two by two", seen_from(side_by_side(SPIN[2], SPIN[2]), *TURN[4]))]
    found += [("two by two", seen_from(side_by_side(SPIN[1], SPIN[3]), *TURN[4]))]
    found += [("two by two", seen_from(side_by_side(SPIN[1], SPIN[2]), *TURN[3]))]
    # Each leaving's number alone is what the shifts take from the ways in it.
    found += [
        ("two by two, shifted", shifted([square for square in SPIN[side]], Fraction(-1, 3), 2, Fraction(1, 2)))
        for side in SPIN
    ]
    found += [("one way", [square]) for square in (whole_square((7,)), STEP, TURN[3][0], TURN[4][0])]
    found += [("one way", [whole_square((0, 0, 0), (0, 0, 0), (0, 0, 0))]), ("one way", [still(4)])]
    found += [("nothing left of two", [STEP, sum_squares(2, (3, STEP), (Fraction(1, 2), still(2)))])]
    found += [("nothing left of two", [whole_square((1, 0), (0, 2)), whole_square((-5, 0), (0, 2))])]
    found += [("nothing left of six", [sum_squares(2, (k, STEP), (k - 2, still(2))) for k in range(6)])]
    found += [("nothing left of six", [sum_squares(4, (k, after_plain(TURN[4][0], TURN[4][0])), (1, TURN[4][0])) for k in range(6)])]
    found += [("turns and moves", [whole_square((1, 0), (0, 0)), STEP])]
    found += [("turns and moves", [whole_square((1, 0), (0, 5)), blank(2)])]
    found += [("turns and moves", [whole_square((3, 0, 0), (0, 2, 0), (0, 0, 1)), whole_square((0, 1, 0), (0, 0, 4), (0, 0, 0))])]
    found += [("turns and moves", seen_from([whole_square((0, 0), (0, -1)), STEP], *TURN[2]))]
    found += [("third and alone", [[[(-10, 7)]], [[N]]]), ("third and alone", [[[N]], [[(5, 21)]]])]
    found += [("three in a row", [
        whole_square((0, 1, 0), (0, 0, 0), (0, 0, 0)), whole_square((0, 0, 0), (0, 0, 1), (0, 0, 0)),
        whole_square((0, 0, 1), (0, 0, 0), (0, 0, 0)),
    ])]
    found += [("all of two by two", ENTRIES), ("all of two by two", [[[(3, 2)]], [[N]], [[N]], [[(3, 2)]]])]
    found += [("all of two by two", side_by_side(ENTRIES, ENTRIES)), ("all of two by two", seen_from(ENTRIES, *TURN[2]))]
    return found


def shuffled_words(one, other):
    """The sum of all words in which a word of each is laid into the other, by every choice of places."""
    found = {}
    for first, x in one:
        for second, y in other:
            for places in itertools.combinations(range(len(first) + len(second)), len(first)):
                mine, its = list(first), list(second)
                word = tuple((mine if at in places else its).pop(0) for at in range(len(first) + len(second)))
                found[word] = found.get(word, 0) + worth(x) * worth(y)
    return sum_of(found)


def all_trees(many, count):
    """All trees of so many letters, with letters below the count."""
    if many == 1:
        return list(range(count))
    found = []
    for ahead in range(1, many):
        found += itertools.product(all_trees(ahead, count), all_trees(many - ahead, count))
    return found


def said_words(tree):
    """The words of a tree, each with its sign, one for each way to turn some of its tuples about."""
    if not isinstance(tree, tuple):
        return [((tree,), 1)]
    found = []
    for (one, sign), (other, its) in itertools.product(said_words(tree[0]), said_words(tree[1])):
        found += [(one + other, sign * its), (other + one, -sign * its)]
    return found


def said_plain(tree):
    """The sum of a tree."""
    found = {}
    for word, sign in said_words(tree):
        found[word] = found.get(word, 0) + sign
    return sum_of(found)
