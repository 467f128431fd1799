"""Rows of numbers, and the rooms that they make by sums with numbers before them.

Within this file a room is reckoned by whole rows: lists of whole numbers without a
common divisor. They make the same room as rows of numbers do, and stay short.
"""

from swaprest.errors import NoRow
from swaprest.numerals import NOUGHT, ONE, common_divisor, fraction, is_number, over, plus, times


def is_row(row):
    """Whether it is a list of numbers, of whatever width."""
    return isinstance(row, list) and all([is_number(one) for one in row])


def is_row_of(row, width):
    """Whether it is a list of width numbers."""
    return is_row(row) and len(row) == width


def refuse_rows(rows, width):
    """Refuse the first of the rows that isn't a list of width numbers."""
    for place, row in enumerate(rows):
        if not is_row_of(row, width):
            raise NoRow(place)


def unit_row(place, width):
    """The row with 1 at the place and noughts else."""
    return [ONE if at == place else NOUGHT for at in range(width)]


def is_of_noughts(row):
    """Whether each number of a row is nought."""
    return all([one == NOUGHT for one in row])


def contrary(row):
    """A row with the other sign at each number."""
    return [(-top, bottom) for top, bottom in row]


def with_times(row, weight, other):
    """A row with another one, times the weight, added to it."""
    if weight == NOUGHT:
        return list(row)
    return [mine if its == NOUGHT else plus(mine, times(weight, its)) for mine, its in zip(row, other)]


def pairing(one, other):
    """The sum of the products of two rows, place by place."""
    total = NOUGHT
    for mine, its in zip(one, other):
        total = plus(total, times(mine, its))
    return total


def thinned(wholes):
    """The whole numbers, each divided by what divides all of them."""
    shared = 0
    for one in wholes:
        shared = common_divisor(shared, one)
        if shared == 1:
            break
    if shared == 0:
        return wholes
    return [one // shared for one in wholes]


def whole_row(row):
    """The whole row that makes the room of a row."""
    shared = 1
    for one in row:
        shared = shared // common_divisor(shared, one[1]) * one[1]
    return thinned([one[0] * (shared // one[1]) for one in row])


def lead_of(whole):
    """The place of the first number other than 0 in a whole row, None where there is none."""
    for place, one in enumerate(whole):
        if one != 0:
            return place
    return None


def cleared(whole, other, place):
    """A whole row made 0 at the place by another one that isn't 0 there."""
    if whole[place] == 0:
        return whole
    return thinned([other[place] * mine - whole[place] * its for mine, its in zip(whole, other)])


def rows_by_leads(rows):
    """The room of the rows: a whole row by each lead, with 0 in all the others' leads."""
    held = {}
    for row in rows:
        whole = whole_row(row)
        for place in held:
            whole = cleared(whole, held[place], place)
        lead = lead_of(whole)
        if lead is not None:
            held = {at: cleared(held[at], whole, lead) for at in held}
            held[lead] = whole
    return held


def kept_rows(rows):
    """The kept rows of the room of rows that have been looked at."""
    held = rows_by_leads(rows)
    return [[fraction(one, held[lead][lead]) for one in held[lead]] for lead in sorted(held)]


def nought_row(held, free, width):
    """The row with 1 at the free place, and else numbers at leads alone, that pairs to nought with all held rows."""
    row = [NOUGHT] * width
    row[free] = ONE
    for lead in held:
        row[lead] = fraction(-held[lead][free], held[lead][lead])
    return row


def nought_rows(rows, width):
    """The kept rows of all that pairs to nought with rows that have been looked at."""
    held = rows_by_leads(rows)
    return kept_rows([nought_row(held, free, width) for free in range(width) if free not in held])


def weights_of(rows, row):
    """Weights by which the rows sum to a row of their room."""
    # Each place of the row asks one thing of the weights: its numbers in the rows, then that in the row.
    asked = [[other[place] for other in rows] + [row[place]] for place in range(len(row))]
    held = rows_by_leads(asked)
    weights = [NOUGHT] * len(rows)
    for lead in held:
        weights[lead] = fraction(held[lead][-1], held[lead][lead])
    return weights


def kept(rows, width):
    """The kept rows of the room of the rows."""
    refuse_rows(rows, width)
    return kept_rows(rows)


def summed(rows, row):
    """("sum", weights) where the rows sum to the row by weights, else ("apart", test)."""
    if not is_row(row):
        raise NoRow(None)
    refuse_rows(rows, len(row))
    # A row lies in the room just where all that pairs to nought with the room does so with the row.
    for test in nought_rows(rows, len(row)):
        worth = pairing(test, row)
        if worth != NOUGHT:
            return ("apart", [over(one, worth) for one in test])
    return ("sum", weights_of(rows, row))


def noughts(rows, width):
    """The kept rows of all rows whose pairing with each of the rows is nought."""
    refuse_rows(rows, width)
    return nought_rows(rows, width)


def common(one, other, width):
    """The kept rows of all rows that lie in both rooms."""
    refuse_rows(one, width)
    refuse_rows(other, width)
    # A row lies in both just where it pairs to nought with all that does so with one of them.
    return nought_rows(nought_rows(one, width) + nought_rows(other, width), width)
