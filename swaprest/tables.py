"""Tables: what is left when two of up to six ways change places."""

from swaprest.errors import Broken, NoCount, NoPair, NoRow, NotBare
from swaprest.numerals import NOUGHT, is_whole, less, times
from swaprest.rows import contrary, is_of_noughts, is_row_of, refuse_rows, with_times

MOST_WAYS = 6


def is_way(one, count):
    """Whether it is a way of a table with so many ways."""
    return is_whole(one) and 0 <= one < count


def pairs_of(count):
    """All two ways (i, j), i below j, by i, then j."""
    return [(i, j) for i in range(count) for j in range(i + 1, count)]


def triples_of(count):
    """All three ways (i, j, k), i below j below k, by i, then j, then k."""
    return [(i, j, k) for i, j in pairs_of(count) for k in range(j + 1, count)]


def names_two_ways(leaving, count):
    """Whether it is a tuple (i, j, row) with two ways, i below j."""
    if not isinstance(leaving, tuple) or len(leaving) != 3:
        return False
    i, j, row = leaving
    return is_way(i, count) and is_way(j, count) and i < j


def rows_by_pair(count, leavings):
    """The rows of leavings by their two ways; the first wrong tuple is refused."""
    held = {}
    for place, leaving in enumerate(leavings):
        if not names_two_ways(leaving, count):
            raise NoPair(place)
        i, j, row = leaving
        if (i, j) in held:
            raise NoPair(place)
        if not is_row_of(row, count + 1):
            raise NoRow(place)
        held[(i, j)] = tuple(row)
    return held


class Table:
    """What is left of each two ways: count, how many ways; leavings, what is told of it and isn't nought."""

    def __init__(self, count, leavings):
        if not is_whole(count) or not 1 <= count <= MOST_WAYS:
            raise NoCount("a table has one to six ways")
        held = rows_by_pair(count, leavings)
        self.count = count
        self.leavings = tuple([(i, j, held[(i, j)]) for i, j in sorted(held) if not is_of_noughts(held[(i, j)])])

    def left(self, one, other):
        """What is left of two things."""
        refuse_rows([one, other], self.count + 1)
        total = [NOUGHT] * (self.count + 1)
        for i, j, row in self.leavings:
            weight = less(times(one[i], other[j]), times(one[j], other[i]))
            total = with_times(total, weight, row)
        return total

    def breaks(self):
        """None where the table keeps the rule, else (i, j, k, row): the first ways that break it, their round sum."""
        by_ways = left_by_ways(self)
        for i, j, k in triples_of(self.count):
            row = round_sum(by_ways, i, j, k)
            if not is_of_noughts(row):
                return (i, j, k, row)
        return None


def left_by_ways(table):
    """What is left of each two ways of a table, in whatever order, by the tuple of both."""
    nothing = [NOUGHT] * (table.count + 1)
    by_ways = {(i, j): nothing for i in range(table.count) for j in range(table.count)}
    for i, j, row in table.leavings:
        by_ways[(i, j)] = list(row)
        by_ways[(j, i)] = contrary(row)
    return by_ways


def round_sum(by_ways, i, j, k):
    """The round sum of three ways, of what left_by_ways tells."""
    total = [NOUGHT] * len(by_ways[(i, j)])
    for one, first, second in ((i, j, k), (j, k, i), (k, i, j)):
        # The number alone stands last and leaves nothing.
        for way, weight in enumerate(by_ways[(first, second)][:-1]):
            total = with_times(total, weight, by_ways[(one, way)])
    return total


def refuse_broken(table):
    """Refuse a table that breaks the rule."""
    found = table.breaks()
    if found is not None:
        raise Broken(found[:3])


def refuse_unless_bare(table):
    """Refuse a table in which some two ways leave a number alone."""
    for i, j, row in table.leavings:
        if row[-1] != NOUGHT:
            raise NotBare((i, j))
