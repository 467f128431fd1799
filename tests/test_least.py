"""least_words, fallen, least_tree, told_by_least: held against all words, all ways to cut them, and joined sums."""

import itertools
import unittest
from fractions import Fraction

from reckon import I, Case, add_terms, all_trees, drawn, joined_words, mixed_sum, no_sums, said_plain, sum_of, word_key, worth
from swaprest.errors import NoCount, NoLeast, NoSum, NoWord
from swaprest.least import fallen, least_tree, least_words, told_by_least
from swaprest.trees import is_of_leavings

NO_COUNTS = (0, -1, 5, 6, 10 ** 40, True, False, None, "", "2", [], [2], (), (2,), (2, 1), [[]])
NO_LENGTHS = (0, -1, 6, 7, 60, 10 ** 40, True, False, None, "", "2", [], [2], (), (2,), (2, 1), [[]])
NO_WORDS = (
    None, True, False, 0, 3, "", "0", "01", [], [0], [0, 1], [()], (4,), (-1,), (0, 4), (0, 1, 2, 3, 4), (True,), (False,), (0, True),
    (None,), ("0",), ("",), ((),), ((0,),), ((0, 1), 1), ([],), ([0],), (0, None, 1), (0,) * 6, (0, 1) * 3, (0,) * 60, (10 ** 40,),
    (0, 0, 0, 0, 1, 1), (1, 1, 1, 1, -1),
)


def is_less(one, other):
    """Whether a word is less: the first unlike letter decides, a beginning is less than the whole."""
    for a, b in zip(one, other):
        if a != b:
            return a < b
    return len(one) < len(other)


def is_least(word):
    return word != () and all(is_less(word, word[k:]) for k in range(1, len(word)))


def words_of(count, length):
    return list(itertools.product(range(count), repeat=length))


def cuts(word):
    """All ways to cut a word into words of one letter or more."""
    if not word:
        return [[]]
    return [[word[:k]] + rest for k in range(1, len(word) + 1) for rest in cuts(word[k:])]


def does_fall(words):
    return all(is_least(word) for word in words) and not any(is_less(one, other) for one, other in zip(words, words[1:]))


def letters_of(tree):
    """The word of a tree's letters."""
    return letters_of(tree[0]) + letters_of(tree[1]) if isinstance(tree, tuple) else (tree,)


def tree_plain(word):
    """The tree of a least word, by the words of point 28."""
    if len(word) == 1:
        return word[0]
    for k in range(1, len(word)):
        if is_least(word[k:]):
            return (tree_plain(word[:k]), tree_plain(word[k:]))


def row_said(words):
    """What the trees of least words say, joined in order."""
    total = [((), I)]
    for word in words:
        total = joined_words(total, said_plain(tree_plain(word)))
    return total


class LeastWords(Case):
    def test_written_out(self):
        self.assertEqual(self.ask(least_words, 2, 1), [(0,), (1,)])
        self.assertEqual(self.ask(least_words, 2, 2), [(0, 1)])
        self.assertEqual(self.ask(least_words, 2, 3), [(0, 0, 1), (0, 1, 1)])
        self.assertEqual(self.ask(least_words, 2, 4), [(0, 0, 0, 1), (0, 0, 1, 1), (0, 1, 1, 1)])
        self.assertEqual(self.ask(least_words, 3, 2), [(0, 1), (0, 2), (1, 2)])
        self.assertEqual(self.ask(least_words, 1, 1), [(0,)])
        self.assertEqual(self.ask(least_words, 1, 4), [])

    def test_against_all_words(self):
        many = {1: (1, 0, 0, 0, 0), 2: (2, 1, 2, 3, 6), 3: (3, 3, 8, 18, 48), 4: (4, 6, 20, 60, 204)}
        for count, length in itertools.product(range(1, 5), range(1, 6)):
            told = self.ask(least_words, count, length)
            self.assertIs(told.__class__, list)
            self.assertEqual(told, [word for word in words_of(count, length) if is_least(word)])
            self.assertEqual(len(told), many[count][length - 1])

    def test_refusals(self):
        for wrong in NO_COUNTS:
            for length in (1, 5, None, 0):
                self.refused(least_words, (wrong, length), NoCount)
        for count in range(1, 5):
            for wrong in NO_LENGTHS:
                self.refused(least_words, (count, wrong), NoLeast)


class Fallen(Case):
    def test_written_out(self):
        self.assertEqual(self.ask(fallen, ()), [])
        self.assertEqual(self.ask(fallen, (3,)), [(3,)])
        self.assertEqual(self.ask(fallen, (1, 0)), [(1,), (0,)])
        self.assertEqual(self.ask(fallen, (0, 1, 0, 1, 0)), [(0, 1), (0, 1), (0,)])
        self.assertEqual(self.ask(fallen, (0, 0, 0)), [(0,), (0,), (0,)])
        self.assertEqual(self.ask(fallen, (1, 2, 0, 3, 1)), [(1, 2), (0, 3, 1)])

    def test_the_one_list_there_is(self):
        for count, longest in ((2, 5), (3, 5), (4, 4)):
            for length in range(longest + 1):
                for word in words_of(count, length):
                    wanted = [words for words in cuts(word) if does_fall(words)]
                    self.assertEqual([fallen(word)], wanted)
        for word in words_of(4, 5)[::17]:
            self.assertEqual([self.ask(fallen, word)], [words for words in cuts(word) if does_fall(words)])

    def test_refusals(self):
        for wrong in NO_WORDS:
            self.refused(fallen, (wrong,), NoWord)


class LeastTree(Case):
    def test_written_out(self):
        self.assertEqual(self.ask(least_tree, (3,)), 3)
        self.assertEqual(self.ask(least_tree, (0, 1)), (0, 1))
        self.assertEqual(self.ask(least_tree, (0, 0, 1)), (0, (0, 1)))
        self.assertEqual(self.ask(least_tree, (0, 1, 1)), ((0, 1), 1))
        self.assertEqual(self.ask(least_tree, (0, 0, 1, 0, 1)), ((0, (0, 1)), (0, 1)))
        self.assertEqual(self.ask(least_tree, (0, 1, 0, 1, 1)), ((0, 1), ((0, 1), 1)))
        self.assertEqual(self.ask(least_tree, (0, 1, 2, 3)), (0, (1, (2, 3))))

    def test_of_each_least_word(self):
        for length in range(1, 6):
            for word in words_of(4, length):
                if is_least(word):
                    told = least_tree(word)
                    self.assertEqual(told, tree_plain(word))
                    self.check_tree(word, told)
                else:
                    self.assertRaises(NoLeast, least_tree, word)

    def check_tree(self, word, tree):
        self.assertEqual(letters_of(tree), word)
        if len(word) > 1:
            first, second = letters_of(tree[0]), letters_of(tree[1])
            self.assertTrue(is_least(first))
            ends = [word[k:] for k in range(1, len(word)) if is_least(word[k:])]
            self.assertEqual(second, max(ends, key=len))
            self.check_tree(first, tree[0])
            self.check_tree(second, tree[1])

    def test_refusals(self):
        for wrong in NO_WORDS:
            self.refused(least_tree, (wrong,), NoWord)
        for wrong in ((), (0, 0), (1, 0), (0, 1, 0), (3, 3, 3, 3, 3), (0, 1, 0, 1), (0, 2, 0, 1, 3)):
            self.refused(least_tree, (wrong,), NoLeast)


class ToldByLeast(Case):
    def check(self, count, total):
        told = self.ask(told_by_least, count, total)
        self.assertIs(told.__class__, list)
        for one in told:
            self.assertIs(one.__class__, tuple)
            words, number = one
            self.assertIs(words.__class__, tuple)
            self.assertTrue(does_fall(list(words)))
            self.assertNotEqual(number, (0, 1))
        rows = [sum(words, ()) for words, _ in told]
        self.assertEqual(rows, sorted(set(rows), key=word_key))
        self.assertEqual(sum_of(add_terms(*[(worth(number), row_said(words)) for words, number in told])), total)
        return told

    def test_written_out(self):
        self.assertEqual(self.check(2, []), [])
        self.assertEqual(self.check(2, [((), (5, 3))]), [((), (5, 3))])
        self.assertEqual(self.check(2, [((0, 1), I)]), [(((0, 1),), I), (((1,), (0,)), I)])
        self.assertEqual(self.check(2, [((1, 0), I)]), [(((1,), (0,)), I)])
        self.assertEqual(self.check(2, [((0, 1), I), ((1, 0), (-1, 1))]), [(((0, 1),), I)])
        self.assertEqual(self.check(1, [((0, 0, 0), (2, 1))]), [(((0,), (0,), (0,)), (2, 1))])

    def test_single_words(self):
        for count, longest in ((1, 5), (2, 5), (3, 3)):
            for length in range(longest + 1):
                for word in words_of(count, length):
                    told = self.check(count, [(word, (-2, 3))])
                    self.assertIn((tuple(fallen(word)), (-2, 3)), told)

    def test_mixed_sums(self):
        for count in range(1, 5):
            for salt in range(8):
                self.check(count, mixed_sum(count, 1 + salt % 5, 6, salt + 20 * count))

    def test_of_what_was_made_of_falling_rows_just_these(self):
        for count in range(1, 5):
            for salt in range(8):
                picks = {}
                for at, length in zip(drawn(salt + count, 7, 10 ** 6), (0, 1, 2, 3, 4, 5, 5)):
                    among = words_of(count, length)
                    picks[among[at % len(among)]] = Fraction(at % 11 - 5, at % 3 + 1)
                made = [(worth, row_said(fallen(word))) for word, worth in picks.items()]
                wanted = [(tuple(fallen(word)), number) for word, number in sum_of(picks)]
                self.assertEqual(self.ask(told_by_least, count, sum_of(add_terms(*made))), wanted)

    def test_one_word_alone_just_where_it_is_of_leavings(self):
        seen = {True: 0, False: 0}
        for salt in range(40):
            trees = [all_trees(many, 2)[at % len(all_trees(many, 2))] for many, at in zip((1, 2, 3, 5), drawn(salt, 4, 10 ** 6))]
            terms = add_terms(*[(k - 2, said_plain(tree)) for k, tree in enumerate(trees)])
            if salt % 2:
                word = words_of(2, salt % 6)[salt % (2 ** (salt % 6))]
                terms[word] = terms.get(word, 0) + 1
            total = sum_of(terms)
            alone = all(len(words) == 1 for words, _ in told_by_least(2, total))
            self.assertIs(is_of_leavings(2, total), alone)
            seen[alone] += 1
        self.assertGreater(min(seen.values()), 10)

    def test_sums(self):
        one, other = mixed_sum(3, 4, 6, 1), mixed_sum(3, 4, 6, 2)
        both = sum_of(add_terms((2, one), (Fraction(-1, 7), other)))
        wanted = {}
        for weight, total in ((2, one), (Fraction(-1, 7), other)):
            for words, number in told_by_least(3, total):
                wanted[words] = wanted.get(words, 0) + weight * worth(number)
        self.assertEqual(dict(told_by_least(3, both)), {words: worth.as_integer_ratio() for words, worth in wanted.items() if worth})

    def test_large_numbers(self):
        tall = 10 ** 999 + 7
        self.check(3, [((0,), (tall, 3)), ((0, 2, 1), (1, tall)), ((1, 0, 2), (tall, tall + 1))])

    def test_many_words(self):
        total = [(word, (k + 1, 1)) for k, word in enumerate(words_of(4, 5)[:60])]
        self.check(4, total)

    def test_refusals(self):
        for wrong in NO_COUNTS:
            for total in ([], [None], [((0,), I)]):
                self.refused(told_by_least, (wrong, total), NoCount)
        for total, place in no_sums():
            self.refused(told_by_least, (3, total), NoSum, place=place)
        for count in range(1, 5):
            self.refused(told_by_least, (count, [((), I), ((0,), I), ((0, count), I)]), NoSum, place=2)
            told_by_least(count, [((count - 1, 0), I)])


if __name__ == "__main__":
    unittest.main()
