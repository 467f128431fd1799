"""Letters that never exchange places: their words put behind one another and laid into one another."""

from swaprest.errors import NoCount
from swaprest.numerals import NOUGHT, is_whole, plus, times
from swaprest.terms import add_term, held_sum, put_together, refuse_long, told_sum

MOST_LETTERS = 4


def refuse_letters(count):
    """Refuse what is no count of letters."""
    if not is_whole(count) or not 1 <= count <= MOST_LETTERS:
        raise NoCount("there are one to four letters")


def held_letters(count, total):
    """A sum of letters as a dict; a count that is none goes ahead."""
    refuse_letters(count)
    return held_sum(total, count)


def joined(count, one, other):
    """The sum of all words of the first with a word of the second behind."""
    first, second = held_letters(count, one), held_letters(count, other)
    refuse_long(first, second)
    return told_sum(put_together(first, second))


def laid_into(one, other):
    """The words in which two words are laid into one another, one for each choice of the places."""
    found = [((), one, other)]
    for place in range(len(one) + len(other)):
        from_one = [(word + mine[:1], mine[1:], its) for word, mine, its in found if mine]
        from_other = [(word + its[:1], mine, its[1:]) for word, mine, its in found if its]
        found = from_one + from_other
    return [word for word, mine, its in found]


def shuffled(count, one, other):
    """The sum of all words in which a word of the first and one of the second are laid into one another."""
    first, second = held_letters(count, one), held_letters(count, other)
    refuse_long(first, second)
    held = {}
    for mine in first:
        for its in second:
            number = times(first[mine], second[its])
            for word in laid_into(mine, its):
                add_term(held, word, number)
    return told_sum(held)


def meeting_of(count, one, other):
    """The sum, over all words, of the products of their numbers in both sums."""
    first, second = held_letters(count, one), held_letters(count, other)
    total = NOUGHT
    for word in first:
        if word in second:
            total = plus(total, times(first[word], second[word]))
    return total
