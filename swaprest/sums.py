"""Sums of words: exchanged, taken many times, turned back, made even in all orders."""

from swaprest.errors import NoCount, TooLong
from swaprest.numerals import MINUS_ONE, ONE, is_whole, times
from swaprest.tables import left_by_ways, refuse_broken, refuse_unless_bare
from swaprest.terms import (
    MOST_LONG, add_term, add_times, held_sum, longest_in, put_together, refuse_long, terms_of_length, told_sum,
)
from swaprest.words import risen_dict, risen_held

MOST_MANY = 5


def swap_dict(by_ways, one, other):
    """The dict of the product of two dicts less the product the other way about."""
    held = put_together(one, other)
    add_times(held, MINUS_ONE, put_together(other, one))
    return risen_dict(by_ways, held)


def swap_of(table, one, other):
    """The product of two sums less the product the other way about."""
    first, second = held_sum(one, table.count), held_sum(other, table.count)
    refuse_long(first, second)
    refuse_broken(table)
    return told_sum(swap_dict(left_by_ways(table), first, second))


def longest_of(table, total):
    """The terms of the risen sum whose words have the most ways."""
    held = risen_held(table, total)
    return told_sum(terms_of_length(held, longest_in(held)))


def power_of(table, total, many):
    """The product of so many of a sum."""
    held = held_sum(total, table.count)
    if not is_whole(many) or not 0 <= many <= MOST_MANY:
        raise NoCount("a sum is taken none to five times")
    if longest_in(held) * many > MOST_LONG:
        raise TooLong("a word would have more than five ways")
    refuse_broken(table)
    by_ways = left_by_ways(table)
    found = {(): ONE}
    for done in range(many):
        found = risen_dict(by_ways, put_together(found, held))
    return told_sum(found)


def turned_back(table, total):
    """The risen sum of all words turned about, with the contrary number where a word has one, three or five ways."""
    held = held_sum(total, table.count)
    refuse_broken(table)
    refuse_unless_bare(table)
    back = {word[::-1]: times(MINUS_ONE if len(word) % 2 == 1 else ONE, held[word]) for word in held}
    return told_sum(risen_dict(left_by_ways(table), back))


def orders_of(word):
    """Each way to put a word's places in order: the word of each."""
    found = [()]
    for way in word:
        found = [order[:place] + (way,) + order[place:] for order in found for place in range(len(order) + 1)]
    return found


def even_dict(by_ways, held):
    """The dict of the even sums of a dict's rising words, each times its number."""
    spread = {}
    for word in held:
        orders = orders_of(word)
        share = times(held[word], (1, len(orders)))
        for order in orders:
            add_term(spread, order, share)
    return risen_dict(by_ways, spread)


def even_of(table, total):
    """The sum of the even sums of the words of the risen sum, each times its number."""
    return told_sum(even_dict(left_by_ways(table), risen_held(table, total)))


def uneven_of(table, total):
    """The sum of rising words of which even_of tells the risen sum."""
    rest = risen_held(table, total)
    by_ways = left_by_ways(table)
    found = {}
    # An even sum is its word and shorter ones, so the longest words of what remains tell the numbers.
    while rest:
        longest = terms_of_length(rest, longest_in(rest))
        found.update(longest)
        add_times(rest, MINUS_ONE, even_dict(by_ways, longest))
    return told_sum(found)
