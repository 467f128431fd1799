"""Grown sums of letters, and things of thin tables put behind one another by them."""

from swaprest.errors import NotNought, NotOne, TooDeep
from swaprest.least import least_terms, tree_of_least
from swaprest.letters import held_letters
from swaprest.numerals import MINUS_ONE, NOUGHT, ONE, times
from swaprest.rows import kept_rows, refuse_rows, unit_row, with_times
from swaprest.tables import refuse_broken
from swaprest.terms import MOST_LONG, add_term, add_times, terms_of_length, told_sum
from swaprest.trees import thing_from

MOST_DEEP = 5


def cut_together(one, other):
    """The dict of all words a b of at most five letters, a word of the one with a word of the other behind it."""
    by_length = [terms_of_length(other, length) for length in range(MOST_LONG + 1)]
    held = {}
    for first in one:
        for terms in by_length[:MOST_LONG + 1 - len(first)]:
            for second in terms:
                add_term(held, first + second, times(one[first], terms[second]))
    return held


def cut_joined(count, one, other):
    """What joined tells of two sums, words of more than five letters left out."""
    first, second = held_letters(count, one), held_letters(count, other)
    return told_sum(cut_together(first, second))


def grown_dict(held):
    """The grown dict of one without ()."""
    total = {(): ONE}
    share = {(): ONE}
    for many in range(1, MOST_LONG + 1):
        more = {}
        add_times(more, (1, many), cut_together(share, held))
        share = more
        add_times(total, ONE, share)
    return total


def logged_dict(held):
    """The dict whose grown one is the dict, of one in which () has the number 1."""
    rest = dict(held)
    add_term(rest, (), MINUS_ONE)
    total = {}
    power = {(): ONE}
    for many in range(1, MOST_LONG + 1):
        power = cut_together(power, rest)
        add_times(total, (1 if many % 2 == 1 else -1, many), power)
    return total


def grown(count, total):
    """The sum of (), the sum, and its powers, each divided by as many as its places have orders."""
    held = held_letters(count, total)
    if () in held:
        raise NotNought("the word () is in the sum")
    return told_sum(grown_dict(held))


def logged(count, total):
    """The sum whose grown one is the sum."""
    held = held_letters(count, total)
    if held.get((), NOUGHT) != ONE:
        raise NotOne("the number of the word () isn't 1")
    return told_sum(logged_dict(held))


def behind_trees():
    """The least trees, with their numbers, of which two letters grown and put behind one another are the grown sum."""
    together = cut_together(grown_dict({(0,): ONE}), grown_dict({(1,): ONE}))
    # It is of leavings, so each tuple has one least word alone.
    return [(tree_of_least(words[0]), number) for words, number in least_terms(2, logged_dict(together))]


def depth_of(table):
    """How many things, one behind the other, leave something at most; None where there is no such number."""
    refuse_broken(table)
    width = table.count + 1
    units = [unit_row(place, width) for place in range(width)]
    room = units
    depth = 1
    while True:
        left = kept_rows([table.left(unit, row) for unit in units for row in room])
        if not left:
            return depth
        # What is left of all once more is all that was left already: it never comes to nought.
        if left == room:
            return None
        room = left
        depth += 1


def put_behind(table, one, other):
    """The sum of the things of all trees of behind_trees, the two things put for the letters."""
    depth = depth_of(table)
    if depth is None or depth > MOST_DEEP:
        raise TooDeep("the table isn't thin, or is deeper than five")
    refuse_rows([one, other], table.count + 1)
    total = [NOUGHT] * (table.count + 1)
    for tree, number in behind_trees():
        total = with_times(total, number, thing_from(table, [one, other], tree))
    return total
