"""Squares: lists of rows, each as long as the list, that move rows."""

from swaprest.errors import NoRow, NoSquare
from swaprest.rows import is_row_of, kept_rows, nought_rows, pairing, unit_row

MOST_SIDE = 6


def is_square(square, most):
    """Whether it is a square of side 1 to most."""
    if not isinstance(square, list) or not 1 <= len(square) <= most:
        return False
    return all([is_row_of(row, len(square)) for row in square])


def moved_row(square, row):
    """The row to which a square moves a row, both looked at."""
    return [pairing(line, row) for line in square]


def after_square(one, other):
    """The square that moves as the second and then the first do, both looked at."""
    columns = [[row[place] for row in other] for place in range(len(other))]
    return [[pairing(row, column) for column in columns] for row in one]


def moved(square, row):
    """The row to which a square moves a row."""
    if not is_square(square, MOST_SIDE):
        raise NoSquare(None)
    if not is_row_of(row, len(square)):
        raise NoRow(None)
    return moved_row(square, row)


def after(one, other):
    """The square that moves as the second and then the first do."""
    for place, square in enumerate([one, other]):
        if not is_square(square, MOST_SIDE):
            raise NoSquare(place)
    if len(one) != len(other):
        raise NoSquare(1)
    return after_square(one, other)


def back_square(square):
    """("back", the square that moves all back), or ("blind", a row that is moved to noughts)."""
    if not is_square(square, MOST_SIDE):
        raise NoSquare(None)
    side = len(square)
    units = [unit_row(place, side) for place in range(side)]
    # What makes the square's rows units makes the units behind them the rows of the one that moves back.
    both = kept_rows([row + unit for row, unit in zip(square, units)])
    if [row[:side] for row in both] == units:
        return ("back", [row[side:] for row in both])
    return ("blind", nought_rows(square, side)[0])
