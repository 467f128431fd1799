"""Acting squares: one for each way of a table, that move rows as words multiply."""

from swaprest.errors import NoCount, NoRow, NoSquare, NotActing, NotEaten, NotKept
from swaprest.numerals import MINUS_ONE, NOUGHT, ONE, plus, times
from swaprest.rows import contrary, is_row_of, kept_rows, nought_rows, refuse_rows, summed, unit_row, with_times
from swaprest.shelves import held_shelf_sum, refuse_shelf
from swaprest.squares import after_square, is_square, moved_row
from swaprest.tables import left_by_ways, pairs_of, refuse_broken, refuse_unless_bare
from swaprest.terms import held_sum

MOST_ACTING = 4


def still_square(side):
    """The square that moves no row."""
    return [unit_row(place, side) for place in range(side)]


def blank_square(side):
    """The square of noughts."""
    return [[NOUGHT] * side for place in range(side)]


def square_with_times(square, weight, other):
    """A square with another one, times the weight, added to it."""
    return [with_times(mine, weight, its) for mine, its in zip(square, other)]


def exchanged(one, other):
    """The after of two squares less the after of both the other way about."""
    return square_with_times(after_square(one, other), MINUS_ONE, after_square(other, one))


def thing_square(squares, thing):
    """The sum of the squares, each times its number in a thing, and of the number alone."""
    side = len(squares[0])
    total = blank_square(side)
    for square, number in zip(squares + [still_square(side)], thing):
        total = square_with_times(total, number, square)
    return total


def refuse_squares(table, squares):
    """Refuse what isn't a square for each way, all of the first one's side."""
    if len(squares) != table.count:
        raise NoSquare(None)
    for place, square in enumerate(squares):
        if not is_square(square, MOST_ACTING) or len(square) != len(squares[0]):
            raise NoSquare(place)


def first_fault(table, squares):
    """The first two ways whose squares don't exchange as the ways do, None where there are none."""
    by_ways = left_by_ways(table)
    for i, j in pairs_of(table.count):
        if exchanged(squares[i], squares[j]) != thing_square(squares, by_ways[(i, j)]):
            return (i, j)
    return None


def refuse_unless_acting(table, squares):
    """Refuse what is no acting of the table, which has been looked at."""
    refuse_squares(table, squares)
    fault = first_fault(table, squares)
    if fault is not None:
        raise NotActing(fault)


def acting_fault(table, squares):
    """None where the squares are an acting of the table, else the first two ways where they aren't."""
    refuse_broken(table)
    refuse_squares(table, squares)
    return first_fault(table, squares)


def led_square(squares, held):
    """The square to which a dict is led."""
    side = len(squares[0])
    total = blank_square(side)
    for word in held:
        square = still_square(side)
        for way in word:
            square = after_square(square, squares[way])
        total = square_with_times(total, held[word], square)
    return total


def led(table, squares, total):
    """The square that is the sum of those of a sum's words, each times its number."""
    refuse_broken(table)
    refuse_unless_acting(table, squares)
    return led_square(squares, held_sum(total, table.count))


def facing(table, squares):
    """The acting whose squares are the contraries of these, turned about the main line."""
    refuse_broken(table)
    refuse_unless_bare(table)
    refuse_unless_acting(table, squares)
    side = len(squares[0])
    return [[contrary([row[place] for row in square]) for place in range(side)] for square in squares]


def both_square(one, other):
    """The square of a way in the acting of two: each of its two squares moves its own part."""
    places = [(r, s) for r in range(len(one)) for s in range(len(other))]
    return [
        [plus(one[r][t] if s == u else NOUGHT, other[s][u] if r == t else NOUGHT) for t, u in places]
        for r, s in places
    ]


def both(table, one, other):
    """The acting of two actings at once."""
    refuse_broken(table)
    refuse_unless_bare(table)
    refuse_unless_acting(table, one)
    refuse_unless_acting(table, other)
    if len(one[0]) * len(other[0]) > MOST_ACTING:
        raise NoCount("both sides together make at most 4")
    return [both_square(mine, its) for mine, its in zip(one, other)]


def shelf_led(table, squares, first, numbers, row, shelf):
    """The row to which the square of a shelf sum moves the row that the eaten ways move by their numbers."""
    refuse_broken(table)
    refuse_unless_acting(table, squares)
    refuse_shelf(table, first, numbers)
    held = held_shelf_sum(shelf, first)
    if not is_row_of(row, len(squares[0])):
        raise NoRow(None)
    for way in range(first, table.count):
        if moved_row(squares[way], row) != [times(numbers[way - first], one) for one in row]:
            raise NotEaten(way)
    return moved_row(led_square(squares, held), row)


def still_room(table, squares):
    """The kept rows of all rows that each square moves to noughts."""
    refuse_broken(table)
    refuse_unless_acting(table, squares)
    return nought_rows([row for square in squares for row in square], len(squares[0]))


def kept_by(table, squares, rows):
    """The kept rows of the least room that has the rows and into which each square moves each of its rows."""
    refuse_broken(table)
    refuse_unless_acting(table, squares)
    refuse_rows(rows, len(squares[0]))
    room = kept_rows(rows)
    while True:
        wider = kept_rows(room + [moved_row(square, row) for square in squares for row in room])
        if wider == room:
            return room
        room = wider


def refuse_unless_kept(squares, room):
    """Refuse a room, by its kept rows, of which a square moves one out of it."""
    for way, square in enumerate(squares):
        for place, row in enumerate(room):
            if kept_rows(room + [moved_row(square, row)]) != room:
                raise NotKept((way, place))


def line_square(row, test):
    """The square that moves each row to the told row, times its pairing with the test."""
    return [[times(mine, its) for its in test] for mine in row]


def leads_of(room):
    """The places of the leads of a room's kept rows."""
    # The first 1 of a kept row is its lead.
    return [row.index(ONE) for row in room]


def start_square(room, side):
    """A square that moves no row of a room, by its kept rows, and each row into it."""
    total = blank_square(side)
    for row, lead in zip(room, leads_of(room)):
        # What a row of the room has at a lead is the weight of the lead's row in it.
        total = square_with_times(total, ONE, line_square(row, unit_row(lead, side)))
    return total


def telling_places(room, side):
    """The places (row, place) that tell all of a square that moves a room to noughts and each row into it."""
    leads = leads_of(room)
    return [(lead, free) for lead in leads for free in range(side) if free not in leads]


def unrest(squares, square, places):
    """What a square exchanged with each of the squares comes to at the places, in one row."""
    found = []
    for its in squares:
        swapped = exchanged(square, its)
        found.extend([swapped[row][place] for row, place in places])
    return found


def tests_of(row, places, count, side):
    """The tests, so many, whose worth of a square is the pairing of a row with its unrest."""
    tests = [blank_square(side) for way in range(count)]
    for at, number in enumerate(row):
        line, place = places[at % len(places)]
        # The main line of an after pairs the rows of the one with the columns of the other.
        tests[at // len(places)][place][line] = number
    return tests


def room_beside(table, squares, rows):
    """("beside", kept rows of a kept room that makes all rows with this one), or ("none", start, tests)."""
    refuse_broken(table)
    refuse_unless_acting(table, squares)
    side = len(squares[0])
    refuse_rows(rows, side)
    room = kept_rows(rows)
    refuse_unless_kept(squares, room)
    start = start_square(room, side)
    # These make all squares that move the room to noughts and each row into it: start may be mended by them alone.
    menders = [line_square(row, test) for row in room for test in nought_rows(room, side)]
    # As the room is kept, start and they, exchanged with the squares, come to such squares too.
    places = telling_places(room, side)
    word, found = summed([unrest(squares, mender, places) for mender in menders], unrest(squares, start, places))
    if word == "apart":
        return ("none", start, tests_of(found, places, table.count, side))
    for mender, weight in zip(menders, found):
        start = square_with_times(start, times(MINUS_ONE, weight), mender)
    return ("beside", nought_rows(start, side))
