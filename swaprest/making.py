"""Tables made of tables, and the loose ones."""

from swaprest.errors import NoCount, NoRow, NotFree
from swaprest.numerals import NOUGHT, is_whole, less
from swaprest.rows import pairing, refuse_rows, summed, unit_row
from swaprest.squares import back_square, moved_row
from swaprest.tables import Table, pairs_of

# What is left of which two ways in a loose table of more than depth 1, by letters and depth; its count first.
LOOSE = {
    (2, 2): (3, ((0, 1, 2),)),
    (2, 3): (5, ((0, 1, 2), (0, 2, 3), (1, 2, 4))),
    (3, 2): (6, ((0, 1, 3), (0, 2, 4), (1, 2, 5))),
}


def beside(one, other):
    """The table with the ways of both, nothing left between them."""
    first, second = one.count, other.count
    leavings = [(i, j, list(row[:-1]) + [NOUGHT] * second + [row[-1]]) for i, j, row in one.leavings]
    leavings.extend([(i + first, j + first, [NOUGHT] * first + list(row)) for i, j, row in other.leavings])
    return Table(first + second, leavings)


def first_unfree(rows):
    """The place of the first row that is a sum of those ahead, with numbers before them; there is one."""
    return min([place for place in range(len(rows)) if summed(rows[:place], rows[place])[0] == "sum"])


def told_by_things(back, alone, thing):
    """A thing told by weights of things and a number alone, of the square that tells the weights."""
    weights = moved_row(back, thing[:-1])
    return weights + [less(thing[-1], pairing(weights, alone))]


def turned(table, rows):
    """The table with the things as ways."""
    if len(rows) != table.count:
        raise NoRow(None)
    refuse_rows(rows, table.count + 1)
    at_ways, alone = [row[:-1] for row in rows], [row[-1] for row in rows]
    # This square moves weights of the things to the numbers at the ways that they make.
    word, back = back_square([[row[way] for row in at_ways] for way in range(table.count)])
    if word == "blind":
        raise NotFree(first_unfree(at_ways))
    pairs = pairs_of(table.count)
    return Table(table.count, [(i, j, told_by_things(back, alone, table.left(rows[i], rows[j]))) for i, j in pairs])


def loose(letters, depth):
    """The freest bare table made by so many letters in which what is left of more than depth things is nought."""
    if not is_whole(letters) or not is_whole(depth):
        raise NoCount("letters and depth are whole numbers")
    # Of depth 1 each letter is a way, and a table refuses by itself what is no count of ways.
    if depth == 1:
        return Table(letters, [])
    if (letters, depth) not in LOOSE:
        raise NoCount("there is no loose table of so many letters and this depth here")
    count, told = LOOSE[(letters, depth)]
    return Table(count, [(i, j, unit_row(way, count + 1)) for i, j, way in told])
