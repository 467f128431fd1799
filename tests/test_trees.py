"""said, tree_thing, combed, is_of_leavings: held against one another, against left, and against shuffled words."""

import itertools
import unittest
from fractions import Fraction

from reckon import (
    BREAKS, I, KEEPS, N, NO_LISTS, NO_NUMBERS, Case, add_terms, all_trees, drawn, is_plain_row, is_plain_sum, joined_words,
    left_row, mixed_grid, mixed_leavings, mixed_sum, no_sums, nums, number, rank, said_plain, sum_of, table_of, terms_of,
    unit_rows, worth,
)
from swaprest.errors import NoCount, NoRow, NoSum, NoTree
from swaprest.letters import joined, meeting_of, shuffled
from swaprest.tables import Table
from swaprest.trees import combed, is_of_leavings, said, tree_thing
from swaprest.words import of_thing, product

NO_COUNTS = (0, -1, 5, 6, 10 ** 40, True, False, None, "", "2", [], [2], (), (2,), (2, 1), [[]])


def no_trees(count):
    """What is no tree of letters below the count, or has more than five letters."""
    found = [-1, count, count + 1, 10 ** 40, True, False, None, "", "0", [], [0], [0, 0], (), (0,), (0, 0, 0), ((),)]
    found += [(0, one) for one in found[:]] + [(one, 0) for one in found[:]]
    found += [((0, 0), (0, (0, None))), ((0, (0, count)), 0), (((0, True), 0), 0), ((0, 0, 0), 0), (0, [0, 0]), ((0, 0), "a")]
    comb = 0
    for _ in range(19):
        comb = (comb, 0)
        if sum(1 for _ in flat(comb)) > 5:
            found += [comb, (0, comb), (comb, 0)]
    found += [((0, (0, 0)), ((0, 0), 0)), ((0, 0), ((0, 0), (0, 0))), (((0, 0), (0, 0)), (0, 0))]
    double = 0
    for _ in range(6):
        double = (double, double)
        if sum(1 for _ in itertools.islice(flat(double), 6)) > 5:
            found.append(double)
    return found


def flat(tree):
    """The letters of a tree, in order."""
    if isinstance(tree, tuple):
        for part in tree:
            yield from flat(part)
    else:
        yield tree


def thing_plain(count, leavings, rows, tree):
    """The thing of a tree."""
    if not isinstance(tree, tuple):
        return rows[tree]
    return left_row(count, leavings, *[thing_plain(count, leavings, rows, part) for part in tree])


class Said(Case):
    def test_written_out(self):
        self.assertEqual(self.ask(said, 1, 0), [((0,), I)])
        self.assertEqual(self.ask(said, 4, 3), [((3,), I)])
        self.assertEqual(self.ask(said, 2, (0, 1)), [((0, 1), I), ((1, 0), (-1, 1))])
        self.assertEqual(self.ask(said, 2, (1, 0)), [((0, 1), (-1, 1)), ((1, 0), I)])
        self.assertEqual(self.ask(said, 2, ((0, 1), 1)), [((0, 1, 1), I), ((1, 0, 1), (-2, 1)), ((1, 1, 0), I)])
        self.assertEqual(self.ask(said, 1, (0, 0)), [])
        self.assertEqual(self.ask(said, 2, ((0, 1), (0, 1))), [])

    def test_trees_of_one_to_five_letters(self):
        for many in range(1, 6):
            for tree in all_trees(many, 2):
                told = said(2, tree)
                self.assertTrue(is_plain_sum(told, 2))
                self.assertEqual(told, said_plain(tree))

    def test_more_letters(self):
        for salt, many in itertools.product(range(8), range(1, 6)):
            trees = all_trees(many, 1)
            for tree in trees:
                letters = drawn(salt + many, many, 4)

                def put(part):
                    return (put(part[0]), put(part[1])) if isinstance(part, tuple) else letters.pop()

                tree = put(tree)
                self.assertEqual(self.ask(said, 4, tree), said_plain(tree))

    def test_two_trees_either_way_about(self):
        for tree in all_trees(5, 2)[::7] + all_trees(4, 2):
            one, other = said(2, tree), said(2, (tree[1], tree[0]))
            self.assertEqual(one, sum_of({word: -number for word, number in terms_of(other).items()}))
            parts = [said(2, part) for part in tree]
            self.assertEqual(one, sum_of(add_terms((1, joined_words(*parts)), (-1, joined_words(*parts[::-1])))))

    def test_the_round_sum_of_three(self):
        small = all_trees(1, 3) + all_trees(2, 3)
        for a, b, c in itertools.product(small, repeat=3):
            if sum(1 for _ in flat((a, (b, c)))) <= 5:
                total = add_terms((1, said(3, (a, (b, c)))), (1, said(3, (b, (c, a)))), (1, said(3, (c, (a, b)))))
                self.assertEqual(sum_of(total), [])

    def test_refusals(self):
        for wrong in NO_COUNTS:
            for tree in (0, (0, 0), None, (0, (0, 9))):
                self.refused(said, (wrong, tree), NoCount)
        for count in range(1, 5):
            for wrong in no_trees(count):
                self.refused(said, (count, wrong), NoTree)


    def test_twenty_deep(self):
        double = 0
        for _ in range(20):
            double = (double, double)
        with self.assertRaises(NoTree):
            said(1, double)
        with self.assertRaises(NoTree):
            tree_thing(Table(1, []), [nums(1, 0)], (double, None))


class TreeThing(Case):
    def test_written_out(self):
        table = table_of("two by two")
        units = unit_rows(4)[:3]
        self.assertEqual(self.ask(tree_thing, table, units, 1), nums(0, 1, 0, 0))
        self.assertEqual(self.ask(tree_thing, table, units, (1, 2)), nums(1, 0, 0, 0))
        self.assertEqual(self.ask(tree_thing, table, units, ((1, 2), 1)), nums(0, 2, 0, 0))
        self.assertEqual(self.ask(tree_thing, table, [nums(1, 2, 3, 4)], 0), nums(1, 2, 3, 4))
        self.assertEqual(self.ask(tree_thing, table, [nums(1, 2, 3, 4)], (0, 0)), nums(0, 0, 0, 0))
        self.assertEqual(self.ask(tree_thing, table_of("place and push"), [nums(1, 0, 5), nums(0, 3, 7)], (0, 1)), nums(0, 0, 3))

    def test_against_left(self):
        tables = list(KEEPS.values()) + list(BREAKS.values()) + [(3, mixed_leavings(3, 5)), (5, mixed_leavings(5, 6))]
        for salt, (count, leavings) in enumerate(tables):
            for many in range(1, 5):
                rows = mixed_grid(many, count + 1, salt + many)
                trees = all_trees(1, many) + all_trees(2, many) + all_trees(3, many)[::5] + all_trees(4, 2 if many > 1 else 1)[::9]
                for tree in trees[salt % 3::3] + [(0, (0, (many - 1, (many - 1, 0))))]:
                    told = self.ask(tree_thing, Table(count, leavings), rows, tree)
                    self.assertTrue(is_plain_row(told, count + 1))
                    self.assertEqual(told, thing_plain(count, leavings, rows, tree))

    def test_what_said_tells_with_things_for_letters(self):
        for salt, (count, leavings) in enumerate(KEEPS.values()):
            table = Table(count, leavings)
            rows = mixed_grid(2, count + 1, salt + 70)
            for tree in (0, (0, 1), (1, (0, 1)), ((0, 1), (0, (0, 1)))):
                total = []
                for word, one in said(2, tree):
                    found = [((), one)]
                    for letter in word:
                        found = product(table, found, of_thing(table, rows[letter]))
                    total.append((1, found))
                self.assertEqual(sum_of(add_terms(*total)), of_thing(table, tree_thing(table, rows, tree)))

    def test_the_number_of_things_goes_first(self):
        for name in ("two by two", "in a ring"):
            for rows in ([], [None] * 5, [nums(1, 0, 0, 0)] * 5, [nums(0, 0, 0, 0)] * 60):
                for tree in (0, None, (0, 4)):
                    self.refused(tree_thing, (table_of(name), rows, tree), NoCount)

    def test_then_the_first_that_is_no_thing(self):
        right = nums(1, 2, 3, 4)
        wrong = [*NO_LISTS, [], nums(1, 2, 3), nums(1, 2, 3, 4, 5), *[[I, I, I, one] for one in NO_NUMBERS], *[[one, I, I, I] for one in NO_NUMBERS]]
        for name in ("two by two", "in a ring"):
            for one in wrong:
                for rows, place in (([one], 0), ([right, one], 1), ([right, right, one, None], 2), ([one, right, one, right], 0)):
                    for tree in (0, None):
                        self.refused(tree_thing, (table_of(name), rows, tree), NoRow, place=place)

    def test_then_what_is_no_tree(self):
        for many in range(1, 5):
            for wrong in no_trees(many):
                for name in ("two by two", "in a ring"):
                    self.refused(tree_thing, (table_of(name), [nums(1, 2, 3, 4)] * many, wrong), NoTree)

    def test_a_told_thing_is_the_askers_own(self):
        rows = [nums(1, 2, 3, 4)]
        told = tree_thing(table_of("round"), rows, 0)
        told.clear()
        self.assertEqual(rows, [nums(1, 2, 3, 4)])


def combed_plain(total):
    """The combed sum, by the words of point 30."""
    found = []
    for word, one in total:
        if word:
            tree = word[0]
            for letter in word[1:]:
                tree = (tree, letter)
            found.append((worth(one), said_plain(tree)))
    return sum_of(add_terms(*found))


class Combed(Case):
    def test_written_out(self):
        self.assertEqual(self.ask(combed, 2, [((), (5, 1))]), [])
        self.assertEqual(self.ask(combed, 2, []), [])
        self.assertEqual(self.ask(combed, 2, [((1,), (5, 1))]), [((1,), (5, 1))])
        self.assertEqual(self.ask(combed, 2, [((0, 1), (1, 2))]), [((0, 1), (1, 2)), ((1, 0), (-1, 2))])
        self.assertEqual(self.ask(combed, 2, [((0, 1), I), ((1, 0), I)]), [])
        self.assertEqual(self.ask(combed, 1, [((0, 0, 0), I)]), [])

    def test_against_said(self):
        for count in range(1, 5):
            for salt in range(12):
                total = mixed_sum(count, 1 + salt % 5, 7, salt + 60 * count)
                told = self.ask(combed, count, total)
                self.assertTrue(is_plain_sum(told, count))
                self.assertEqual(told, combed_plain(total))
            for word in itertools.product(range(count), repeat=3):
                tree = ((word[0], word[1]), word[2])
                self.assertEqual(self.ask(combed, count, [(word, I)]), said(count, tree))

    def test_what_is_combed_is_of_leavings(self):
        for salt in range(20):
            told = combed(3, mixed_sum(3, 5, 6, salt))
            self.assertIs(is_of_leavings(3, told), True)
            again = {word: one * len(word) for word, one in terms_of(told).items()}
            self.assertEqual(combed(3, told), sum_of(again))


def sums_of_trees(count, salt):
    """A sum of trees of one to five letters, each times a number."""
    trees = []
    for many, at in zip((1, 2, 3, 4, 5), drawn(salt, 5, 10 ** 6)):
        among = all_trees(many, min(count, 3 if many < 5 else 2))
        trees += [among[at % len(among)], among[at // 7 % len(among)]]
    weights = [Fraction(one % 9 - 4, one % 4 + 1) for one in drawn(salt + 3, len(trees), 100)]
    return sum_of(add_terms(*[(weight, said_plain(tree)) for weight, tree in zip(weights, trees)]))


class IsOfLeavings(Case):
    def by_shuffles(self, count, total):
        """Whether () isn't among the words and each shuffled sum of two words, neither (), meets the sum nowhere."""
        words = [word for long in range(1, 5) for word in itertools.product(range(count), repeat=long)]
        for one, other in itertools.combinations_with_replacement(words, 2):
            if len(one) + len(other) <= 5 and meeting_of(count, total, shuffled(count, [(one, I)], [(other, I)])) != N:
                return False
        return () not in terms_of(total)

    def test_written_out(self):
        self.assertIs(self.ask(is_of_leavings, 2, []), True)
        self.assertIs(self.ask(is_of_leavings, 2, [((), I)]), False)
        self.assertIs(self.ask(is_of_leavings, 2, [((), I), ((0,), I)]), False)
        self.assertIs(self.ask(is_of_leavings, 2, [((0,), I), ((1,), (2, 3))]), True)
        self.assertIs(self.ask(is_of_leavings, 2, [((0, 0), I)]), False)
        self.assertIs(self.ask(is_of_leavings, 2, [((0, 1), I), ((1, 0), (-1, 1))]), True)
        self.assertIs(self.ask(is_of_leavings, 2, [((0, 1), I), ((1, 0), I)]), False)
        self.assertIs(self.ask(is_of_leavings, 2, [((0, 1), I), ((1, 0), (-1, 2))]), False)

    def test_sums_of_trees(self):
        for count in range(1, 5):
            for salt in range(10):
                total = sums_of_trees(count, salt)
                self.assertIs(self.ask(is_of_leavings, count, total), True)
                if () not in terms_of(total):
                    self.assertIs(self.ask(is_of_leavings, count, [((), (1, 9))] + total), False)

    def test_one_number_changed(self):
        for count in range(1, 5):
            total = sums_of_trees(count, count)
            for word in terms_of(total):
                for change in (1, Fraction(-1, 3)):
                    terms = terms_of(total)
                    terms[word] += change
                    # A letter alone may have any number; of more letters a word alone is never of leavings.
                    self.assertIs(self.ask(is_of_leavings, count, sum_of(terms)), len(word) == 1)

    def test_one_word_more(self):
        total = sums_of_trees(2, 7)
        for word in itertools.chain(*[itertools.product(range(2), repeat=long) for long in range(2, 6)]):
            if word not in terms_of(total):
                self.assertIs(self.ask(is_of_leavings, 2, sum_of({**terms_of(total), word: 1})), False)

    def test_against_shuffles(self):
        for salt in range(4):
            total = sums_of_trees(2, salt + 30)
            self.assertTrue(self.by_shuffles(2, total))
        for salt in range(12):
            total = mixed_sum(2, 2, 3, salt)
            self.assertIs(is_of_leavings(2, total), self.by_shuffles(2, total))

    def test_how_many_there_are(self):
        # Of all sums of words of one length, the room of those of leavings is as wide as that of the combed ones.
        for count, length, many in ((2, 2, 1), (2, 3, 2), (2, 4, 3), (2, 5, 6), (3, 2, 3), (3, 3, 8), (4, 2, 6)):
            words = list(itertools.product(range(count), repeat=length))
            rows = []
            for word in words:
                told = dict(combed(count, [(word, I)]))
                rows.append([told.get(other, N) for other in words])
            self.assertEqual(rank(rows), many)

    def test_what_two_leave(self):
        for salt in range(6):
            one, other = combed(3, mixed_sum(3, 2, 5, salt)), combed(3, mixed_sum(3, 3, 5, salt + 9))
            both = sum_of(add_terms((1, joined(3, one, other)), (-1, joined(3, other, one))))
            self.assertIs(is_of_leavings(3, both), True)

    def test_large_numbers(self):
        tall = 10 ** 999 + 7
        total = [((0,), (1, tall)), ((0, 1), (tall, 3)), ((1, 0), (-tall, 3))]
        self.assertIs(self.ask(is_of_leavings, 2, total), True)
        self.assertIs(self.ask(is_of_leavings, 2, total[:2] + [((1, 0), (-tall - 3, 3))]), False)

    def test_refusals(self):
        for told_by in (combed, is_of_leavings):
            for wrong in NO_COUNTS:
                for total in ([], [None], [((0,), I)]):
                    self.refused(told_by, (wrong, total), NoCount)
            for total, place in no_sums():
                self.refused(told_by, (3, total), NoSum, place=place)
            for count in range(1, 5):
                self.refused(told_by, (count, [((), I), ((0,), I), ((0, count), I)]), NoSum, place=2)
                told_by(count, [((count - 1, 0), I)])


if __name__ == "__main__":
    unittest.main()
