"""Words of ways: exchanges of neighbours, and the sums of rising words to which they lead."""

from swaprest.errors import NoPlace, NoRow
from swaprest.numerals import NOUGHT, ONE, is_whole, times
from swaprest.rows import is_row_of
from swaprest.tables import left_by_ways, refuse_broken, refuse_unless_bare
from swaprest.terms import (
    add_term, held_sum, is_word, longest_in, put_together, refuse_long, told_sum, word_order,
)


def falls_at(word, place):
    """Whether a word falls at a place that it has."""
    return word[place] > word[place + 1]


def first_fall(word):
    """The first place at which a word falls that isn't rising."""
    return min([place for place in range(len(word) - 1) if falls_at(word, place)])


def is_rising(word):
    """Whether a word falls nowhere."""
    return not any([falls_at(word, place) for place in range(len(word) - 1)])


def out_of_order(word):
    """How many two ways of a word stand the greater one ahead of the other."""
    return len([1 for low in range(len(word)) for high in range(low + 1, len(word)) if word[low] > word[high]])


def exchange(held, by_ways, word, place):
    """Do a step: change the dict by exchanging the neighbours of its word at the place."""
    number = held[word]
    ahead, behind = word[:place], word[place + 2:]
    first, second = word[place], word[place + 1]
    del held[word]
    add_term(held, ahead + (second, first) + behind, number)
    left = by_ways[(first, second)]
    for way, weight in enumerate(left[:-1]):
        if weight != NOUGHT:
            add_term(held, ahead + (way,) + behind, times(number, weight))
    if left[-1] != NOUGHT:
        add_term(held, ahead + behind, times(number, left[-1]))


def rise(held, by_ways):
    """Change a dict by steps until all its words are rising; the steps done."""
    steps = []
    # Each step makes words less out of order, or shorter, so no word comes in again that was exchanged.
    for length in range(longest_in(held), 1, -1):
        for many in range(length * (length - 1) // 2, 0, -1):
            falling = [word for word in held if len(word) == length and out_of_order(word) == many]
            for word in falling:
                place = first_fall(word)
                exchange(held, by_ways, word, place)
                steps.append((word, place))
    return steps


def risen_dict(by_ways, held):
    """The dict of rising words to which steps lead a dict, which stays as it is."""
    found = dict(held)
    rise(found, by_ways)
    return found


def is_step(held, count, step):
    """Whether it is a tuple of a word of the dict and a place at which this falls."""
    if not isinstance(step, tuple) or len(step) != 2:
        return False
    word, place = step
    if not is_word(word, count) or word not in held:
        return False
    return is_whole(place) and 0 <= place < len(word) - 1 and falls_at(word, place)


def walked(table, total, steps):
    """The sum behind all steps, done in order."""
    held = held_sum(total, table.count)
    by_ways = left_by_ways(table)
    for number, step in enumerate(steps):
        if not is_step(held, table.count, step):
            raise NoPlace(number)
        exchange(held, by_ways, step[0], step[1])
    return told_sum(held)


def steps_up(table, total):
    """Steps behind which all words of the sum are rising."""
    return rise(held_sum(total, table.count), left_by_ways(table))


def risen_held(table, total):
    """The dict of rising words to which steps lead a sum."""
    held = held_sum(total, table.count)
    refuse_broken(table)
    return risen_dict(left_by_ways(table), held)


def risen(table, total):
    """The sum of rising words to which steps lead a sum."""
    return told_sum(risen_held(table, total))


def steps_from(by_ways, word, place):
    """Steps that lead a word to rising ones, the first of them at the place."""
    held = {word: ONE}
    exchange(held, by_ways, word, place)
    return [(word, place)] + rise(held, by_ways)


def two_ways(table):
    """None where the table keeps the rule, else a word and two lists of steps that lead it to unlike sums."""
    found = table.breaks()
    if found is None:
        return None
    i, j, k, row = found
    by_ways = left_by_ways(table)
    # What the two sums differ by is the round sum of the three ways.
    return ((k, j, i), steps_from(by_ways, (k, j, i), 0), steps_from(by_ways, (k, j, i), 1))


def product(table, one, other):
    """The risen sum of all words of the first with a word of the second behind."""
    first, second = held_sum(one, table.count), held_sum(other, table.count)
    refuse_long(first, second)
    refuse_broken(table)
    return told_sum(risen_dict(left_by_ways(table), put_together(first, second)))


def of_thing(table, row):
    """The sum of a thing: a word of each way with its number, and () with the number alone."""
    if not is_row_of(row, table.count + 1):
        raise NoRow(None)
    held = {(way,): number for way, number in enumerate(row[:-1]) if number != NOUGHT}
    add_term(held, (), row[-1])
    return told_sum(held)


def thing_of(table, total):
    """The thing whose sum is the risen one, None where this has a longer word."""
    held = risen_held(table, total)
    if longest_in(held) > 1:
        return None
    return [held.get((way,), NOUGHT) for way in range(table.count)] + [held.get((), NOUGHT)]


def splits_of(word):
    """The two words for each choice of some of a word's places: the ways at these, and the others."""
    found = [((), ())]
    for way in word:
        found = [(left + (way,), right) for left, right in found] + [(left, right + (way,)) for left, right in found]
    return found


def parts_order(parts):
    """What two words are sorted by: the first, then the second."""
    return (word_order(parts[0]), word_order(parts[1]))


def parted(table, total):
    """The tuples (left, right, number) of the risen sum."""
    held = risen_held(table, total)
    refuse_unless_bare(table)
    found = {}
    for word in held:
        for parts in splits_of(word):
            add_term(found, parts, held[word])
    return [(parts[0], parts[1], found[parts]) for parts in sorted(found, key=parts_order)]
