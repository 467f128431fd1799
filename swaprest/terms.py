"""Words and sums as they are handed in and told.

While a sum is reckoned with, it is a dict: each word with its number, none of them nought.
"""

from swaprest.errors import NoSum, TooLong
from swaprest.numerals import NOUGHT, is_number, is_whole, plus, times

MOST_LONG = 5


def is_word(word, count):
    """Whether it is a tuple of at most five whole numbers from 0 to the count less one."""
    if not isinstance(word, tuple) or len(word) > MOST_LONG:
        return False
    return all([is_whole(one) and 0 <= one < count for one in word])


def is_term(term, count):
    """Whether it is a tuple of a word and a number other than nought."""
    if not isinstance(term, tuple) or len(term) != 2:
        return False
    return is_word(term[0], count) and is_number(term[1]) and term[1] != NOUGHT


def word_order(word):
    """What words are sorted by: the shorter first, those of one length rising."""
    return (len(word), word)


def may_follow(ahead, term, count):
    """Whether it is a term that may stand in a sum behind the term ahead, None where it is the first."""
    if not is_term(term, count):
        return False
    return ahead is None or word_order(ahead[0]) < word_order(term[0])


def held_sum(total, count):
    """A sum as a dict; what is no sum is refused by the first place at which it is none."""
    ahead = None
    for place, term in enumerate(total):
        if not may_follow(ahead, term, count):
            raise NoSum(place)
        ahead = term
    return {word: number for word, number in total}


def told_sum(held):
    """The sum of a dict."""
    return [(word, held[word]) for word in sorted(held, key=word_order)]


def add_term(held, word, number):
    """Add the word, with the number, to a dict; what comes to nought goes out."""
    number = plus(held.get(word, NOUGHT), number)
    if number != NOUGHT:
        held[word] = number
    elif word in held:
        del held[word]


def add_times(held, number, other):
    """Add another dict, times the number, to a dict."""
    for word in other:
        add_term(held, word, times(number, other[word]))


def longest_in(held):
    """How many ways the longest word of a dict has, 0 where there is none."""
    return max([len(word) for word in held], default=0)


def terms_of_length(held, length):
    """The words of a dict with so many ways, and their numbers."""
    return {word: held[word] for word in held if len(word) == length}


def refuse_long(one, other):
    """Refuse two dicts where a word of the one and a word of the other are too long together."""
    # Where the one has no words, those of the other are not too long by themselves.
    if longest_in(one) + longest_in(other) > MOST_LONG:
        raise TooLong("a word would have more than five ways")


def put_together(one, other):
    """The dict of all words a b, a word of the one with a word of the other behind it."""
    held = {}
    for first in one:
        for second in other:
            add_term(held, first + second, times(one[first], other[second]))
    return held
