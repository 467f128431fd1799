"""Shelves: sums whose last ways are eaten, each for a number, and what moves them."""

from swaprest.errors import NoCount, NoRow, NoShelf, NoSum
from swaprest.numerals import NOUGHT, ONE, is_whole, plus, times
from swaprest.passing import asked_of, refuse_long_beside, refuse_most, rising_words, sums_of_rows
from swaprest.rows import is_of_noughts, is_row_of, nought_rows, pairing
from swaprest.tables import left_by_ways, pairs_of, refuse_broken
from swaprest.terms import add_term, held_sum, may_follow, put_together, refuse_long, told_sum
from swaprest.words import is_rising, risen_dict


def is_eaten_up(left, first, numbers):
    """Whether what is left of two eaten ways has eaten ways alone, and comes to nought by their numbers."""
    if not is_of_noughts(left[:first]):
        return False
    return plus(pairing(left[first:-1], numbers), left[-1]) == NOUGHT


def refuse_shelf(table, first, numbers):
    """Refuse what is no shelf; the table has been looked at."""
    if not is_whole(first) or not 0 <= first <= table.count:
        raise NoCount("the first way is a whole number from 0 to the table's count")
    if not is_row_of(numbers, table.count - first):
        raise NoRow(None)
    by_ways = left_by_ways(table)
    for i, j in pairs_of(table.count):
        if i >= first and not is_eaten_up(by_ways[(i, j)], first, numbers):
            raise NoShelf((i, j))


def held_shelf_sum(total, first):
    """A shelf sum as a dict; what is none is refused by the first place at which it is none."""
    ahead = None
    for place, term in enumerate(total):
        # The ways that aren't eaten are those of a table with so many ways as the first one's number.
        if not may_follow(ahead, term, first) or not is_rising(term[0]):
            raise NoSum(place)
        ahead = term
    return {word: number for word, number in total}


def eaten_dict(held, first, numbers):
    """A dict of rising words, each without its eaten ways, its number taken times theirs."""
    found = {}
    for word in held:
        number = held[word]
        for way in word:
            if way >= first:
                number = times(number, numbers[way - first])
        add_term(found, tuple([way for way in word if way < first]), number)
    return found


def moved_dict(by_ways, first, numbers, held, shelf):
    """The dict of the shelf sum to which the product of two dicts comes."""
    return eaten_dict(risen_dict(by_ways, put_together(held, shelf)), first, numbers)


def eaten(table, first, numbers, total):
    """The shelf sum to which a sum comes."""
    refuse_broken(table)
    refuse_shelf(table, first, numbers)
    held = held_sum(total, table.count)
    return told_sum(eaten_dict(risen_dict(left_by_ways(table), held), first, numbers))


def moved_on(table, first, numbers, total, shelf):
    """The shelf sum to which a sum moves a shelf sum."""
    refuse_broken(table)
    refuse_shelf(table, first, numbers)
    held = held_sum(total, table.count)
    shelf_held = held_shelf_sum(shelf, first)
    refuse_long(held, shelf_held)
    return told_sum(moved_dict(left_by_ways(table), first, numbers, held, shelf_held))


def silenced(table, first, numbers, others, most):
    """The shelf sums of words of at most so many ways that each of the others moves to nought."""
    refuse_broken(table)
    refuse_shelf(table, first, numbers)
    refuse_most(most)
    held = [held_sum(other, table.count) for other in others]
    refuse_long_beside(most, held)
    by_ways = left_by_ways(table)
    words = rising_words(list(range(first)), most)
    asked = []
    for other in held:
        asked.extend(asked_of([moved_dict(by_ways, first, numbers, other, {word: ONE}) for word in words]))
    return sums_of_rows(words, nought_rows(asked, len(words)))
