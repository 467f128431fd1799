"""Trees of letters: what letters leave of one another."""

from swaprest.errors import NoCount, NoTree
from swaprest.letters import MOST_LETTERS, held_letters, refuse_letters
from swaprest.numerals import MINUS_ONE, ONE, times
from swaprest.rows import refuse_rows
from swaprest.tables import is_way
from swaprest.terms import MOST_LONG, add_times, longest_in, put_together, terms_of_length, told_sum


def letters_in(tree, count, deep):
    """How many letters a tree has; None where it is none, or has more than so many tuples within one another."""
    if is_way(tree, count):
        return 1
    if deep == 0 or not isinstance(tree, tuple) or len(tree) != 2:
        return None
    many = [letters_in(part, count, deep - 1) for part in tree]
    if None in many:
        return None
    return sum(many)


def refuse_tree(tree, count):
    """Refuse what is no tree of at most five letters below the count."""
    # Each tuple within another one has a letter more, so what is deeper has too many letters.
    many = letters_in(tree, count, MOST_LONG - 1)
    if many is None or many > MOST_LONG:
        raise NoTree("a tree is a letter, or a tuple of two trees, and has at most five letters")


def left_dict(one, other):
    """The dict of two dicts joined, less the same the other way about."""
    held = put_together(one, other)
    add_times(held, MINUS_ONE, put_together(other, one))
    return held


def said_dict(tree):
    """The dict of a tree's sum."""
    if not isinstance(tree, tuple):
        return {(tree,): ONE}
    return left_dict(said_dict(tree[0]), said_dict(tree[1]))


def said(count, tree):
    """The sum of a tree."""
    refuse_letters(count)
    refuse_tree(tree, count)
    return told_sum(said_dict(tree))


def thing_from(table, rows, tree):
    """The thing to which a tree comes by things, all looked at."""
    if not isinstance(tree, tuple):
        return list(rows[tree])
    return table.left(thing_from(table, rows, tree[0]), thing_from(table, rows, tree[1]))


def tree_thing(table, rows, tree):
    """The thing to which a tree comes where each letter is put by the thing at its place."""
    if not 1 <= len(rows) <= MOST_LETTERS:
        raise NoCount("one to four things stand for letters")
    refuse_rows(rows, table.count + 1)
    refuse_tree(tree, len(rows))
    return thing_from(table, rows, tree)


def combed_word(word):
    """The dict of the combed sum of a word."""
    if not word:
        return {}
    held = {word[:1]: ONE}
    for letter in word[1:]:
        held = left_dict(held, {(letter,): ONE})
    return held


def combed_dict(held):
    """The dict of the combed sums of a dict's words, each times its number."""
    found = {}
    for word in held:
        add_times(found, held[word], combed_word(word))
    return found


def combed(count, total):
    """The sum of the combed sums of a sum's words, each times its number."""
    return told_sum(combed_dict(held_letters(count, total)))


def is_of_leavings(count, total):
    """Whether a sum is one of what trees say, each times a number."""
    held = held_letters(count, total)
    if () in held:
        return False
    for length in range(1, longest_in(held) + 1):
        terms = terms_of_length(held, length)
        if combed_dict(terms) != {word: times((length, 1), terms[word]) for word in terms}:
            return False
    return True
