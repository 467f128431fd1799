"""Sums that pass one another: their products are the same either way about."""

from swaprest.errors import NoCount
from swaprest.numerals import NOUGHT, ONE, is_whole
from swaprest.rows import nought_rows
from swaprest.sums import swap_dict, swap_of
from swaprest.tables import left_by_ways, refuse_broken
from swaprest.terms import held_sum, refuse_long

MOST_MOST = 3


def passes(table, one, other):
    """Whether two sums pass one another."""
    return swap_of(table, one, other) == []


def rising_words(ways, most):
    """All rising words of at most so many of the ways, in order."""
    found = [()]
    longest = [()]
    for length in range(most):
        longest = [word + (way,) for word in longest for way in ways if not word or word[-1] <= way]
        found.extend(longest)
    return found


def asked_by(by_ways, words, other):
    """Rows whose pairing with the numbers of the words is nought just where their sum passes the other one."""
    swaps = [swap_dict(by_ways, {word: ONE}, other) for word in words]
    met = {}
    for swap in swaps:
        met.update(swap)
    return [[swap.get(word, NOUGHT) for swap in swaps] for word in met]


def sums_of_rows(words, rows):
    """The sums whose numbers at the words are the rows."""
    return [[(word, number) for word, number in zip(words, row) if number != NOUGHT] for row in rows]


def passing(table, others, most):
    """The sums of rising words of at most so many ways that pass each of the others."""
    if not is_whole(most) or not 0 <= most <= MOST_MOST:
        raise NoCount("most is a whole number from 0 to 3")
    held = [held_sum(other, table.count) for other in others]
    words = rising_words(list(range(table.count)), most)
    for other in held:
        refuse_long({words[-1]: ONE}, other)
    refuse_broken(table)
    by_ways = left_by_ways(table)
    asked = []
    for other in held:
        asked.extend(asked_by(by_ways, words, other))
    return sums_of_rows(words, nought_rows(asked, len(words)))
