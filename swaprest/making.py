"""Tables made of tables, and the loose ones."""

from swaprest.errors import NoCount, NoRow, NotFree
from swaprest.numerals import NOUGHT, is_whole, less
from swaprest.rows import pairing, refuse_rows, summed, unit_row
from swaprest.tables import Table, pairs_of

# What is left of which two ways in a loose table of more than depth 1, by letters and depth; its count first.
LOOSE = {
    (2, 2): (3, ((0, 1, 2),)),
    (2, 3): (5, ((0, 1, 2), (0, 2, 3), (1, 2, 4))),
    (3, 2): (6, ((0, 1, 3), (0, 2, 4), (1, 2, 5))),
}


def beside(one, other):
    """The table with the ways of both, nothing left between them."""
    first, second = one.count, other.count
    leavings = [(i, j, list(row[:-1]) + [NOUGHT] * second + [row[-1]]) for i, j, row in one.leavings]
    leavings.extend([(i + first, j + first, [NOUGHT] * first + list(row)) for i, j, row in other.leavings])
    return Table(first + second, leavings)


def refuse_unfree(rows):
    """Refuse things of which one has numbers at the ways that are a sum of those ahead."""
    ahead = []
    for place, row in enumerate(rows):
        told = row[:-1]
        if summed(ahead, told)[0] == "sum":
            raise NotFree(place)
        ahead.append(told)


def told_by_things(rows, thing):
    """A thing told by weights of free things and a number alone."""
    weights = summed([row[:-1] for row in rows], thing[:-1])[1]
    alone = pairing(weights, [row[-1] for row in rows])
    return weights + [less(thing[-1], alone)]


def turned(table, rows):
    """The table with the things as ways."""
    if len(rows) != table.count:
        raise NoRow(None)
    refuse_rows(rows, table.count + 1)
    refuse_unfree(rows)
    leavings = [(i, j, told_by_things(rows, table.left(rows[i], rows[j]))) for i, j in pairs_of(table.count)]
    return Table(table.count, leavings)


def loose(letters, depth):
    """The freest bare table made by so many letters in which what is left of more than depth things is nought."""
    if not is_whole(letters) or not is_whole(depth):
        raise NoCount("letters and depth are whole numbers")
    # Of depth 1 each letter is a way, and a table refuses by itself what is no count of ways.
    if depth == 1:
        return Table(letters, [])
    if (letters, depth) not in LOOSE:
        raise NoCount("there is no loose table of so many letters and this depth here")
    count, told = LOOSE[(letters, depth)]
    return Table(count, [(i, j, unit_row(way, count + 1)) for i, j, way in told])
