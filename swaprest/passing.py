"""Sums that pass one another: their products are the same either way about."""

from swaprest.errors import NoCount, TooLong
from swaprest.numerals import NOUGHT, ONE, is_whole
from swaprest.rows import nought_rows
from swaprest.sums import swap_dict, swap_of
from swaprest.tables import left_by_ways, refuse_broken
from swaprest.terms import MOST_LONG, held_sum, longest_in

MOST_MOST = 3


def passes(table, one, other):
    """Whether two sums pass one another."""
    return swap_of(table, one, other) == []


def rising_words(ways, most):
    """All rising words of at most so many of the ways, in order."""
    found = [()]
    longest = [()]
    for length in range(most):
        longest = [word + (way,) for word in longest for way in ways if not word or word[-1] <= way]
        found.extend(longest)
    return found


def refuse_most(most):
    """Refuse what is no whole number from 0 to 3."""
    if not is_whole(most) or not 0 <= most <= MOST_MOST:
        raise NoCount("most is a whole number from 0 to 3")


def refuse_long_beside(most, others):
    """Refuse dicts of which some word and most ways are too long together."""
    for other in others:
        if longest_in(other) + most > MOST_LONG:
            raise TooLong("a word would have more than five ways")


def asked_of(images):
    """Rows whose pairing with numbers is nought just where the images, each times its number, sum to nothing."""
    met = {}
    for image in images:
        met.update(image)
    return [[image.get(word, NOUGHT) for image in images] for word in met]


def sums_of_rows(words, rows):
    """The sums whose numbers at the words are the rows."""
    return [[(word, number) for word, number in zip(words, row) if number != NOUGHT] for row in rows]


def passing(table, others, most):
    """The sums of rising words of at most so many ways that pass each of the others."""
    refuse_most(most)
    held = [held_sum(other, table.count) for other in others]
    refuse_long_beside(most, held)
    refuse_broken(table)
    by_ways = left_by_ways(table)
    words = rising_words(list(range(table.count)), most)
    asked = []
    for other in held:
        asked.extend(asked_of([swap_dict(by_ways, {word: ONE}, other) for word in words]))
    return sums_of_rows(words, nought_rows(asked, len(words)))
