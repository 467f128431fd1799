"""Least words of letters, and sums told by what their trees say."""

from swaprest.errors import NoLeast, NoWord
from swaprest.letters import MOST_LETTERS, held_letters, refuse_letters
from swaprest.numerals import MINUS_ONE, ONE, is_whole, times
from swaprest.terms import MOST_LONG, add_times, is_word, longest_in, put_together
from swaprest.trees import said_dict


def all_words(count, length):
    """All words of so many letters, rising."""
    found = [()]
    for done in range(length):
        found = [word + (letter,) for word in found for letter in range(count)]
    return found


def is_least(word):
    """Whether a word is less than each of its ends; () is not."""
    return len(word) > 0 and all([word < word[place:] for place in range(1, len(word))])


def refuse_word(word):
    """Refuse what is no word of letters."""
    if not is_word(word, MOST_LETTERS):
        raise NoWord("a word is a tuple of at most five letters from 0 to 3")


def least_words(count, length):
    """All least words of so many letters, rising."""
    refuse_letters(count)
    if not is_whole(length) or not 1 <= length <= MOST_LONG:
        raise NoLeast("least words have one to five letters here")
    return [word for word in all_words(count, length) if is_least(word)]


def fallen_words(word):
    """The least words, each not greater than the one ahead, of a word that has been looked at."""
    found = []
    while word:
        # Behind a shorter beginning than the longest that is least a greater word would follow.
        most = max([many for many in range(1, len(word) + 1) if is_least(word[:many])])
        found.append(word[:most])
        word = word[most:]
    return found


def fallen(word):
    """The least words, each not greater than the one ahead, which put behind one another are the word."""
    refuse_word(word)
    return fallen_words(word)


def tree_of_least(word):
    """The tree of a least word that has been looked at."""
    if len(word) == 1:
        return word[0]
    ahead = min([many for many in range(1, len(word)) if is_least(word[many:])])
    return (tree_of_least(word[:ahead]), tree_of_least(word[ahead:]))


def least_tree(word):
    """The tree of a least word."""
    refuse_word(word)
    if not is_least(word):
        raise NoLeast("the word isn't least")
    return tree_of_least(word)


def fallen_dict(words):
    """The dict of what the trees of least words say, joined in order."""
    held = {(): ONE}
    for word in words:
        held = put_together(held, said_dict(tree_of_least(word)))
    return held


def least_terms(count, held):
    """The tuples (words, number) of least words that tell a dict."""
    rest = dict(held)
    found = []
    for length in range(longest_in(held) + 1):
        # A falling row of least words says its word and greater ones of like length, so the least that remains tells.
        for word in all_words(count, length):
            if word in rest:
                words, number = fallen_words(word), rest[word]
                found.append((tuple(words), number))
                add_times(rest, times(MINUS_ONE, number), fallen_dict(words))
    return found


def told_by_least(count, total):
    """The tuples (words, number) of falling rows of least words whose trees, joined, sum to the sum."""
    return least_terms(count, held_letters(count, total))
