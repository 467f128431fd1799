"""cut_joined, grown, logged, behind_trees, depth_of, put_behind: held against one another and against grown squares."""

import itertools
import unittest
from fractions import Fraction
from math import factorial

from reckon import (
    BREAKS, I, KEEPS, N, NO_LISTS, NO_NUMBERS, Case, add_terms, after_plain, all_trees, drawn, first_break, is_plain_row,
    is_plain_sum, joined_words, left_row, mixed_grid, mixed_sum, no_sums, nums, number, said_plain, still, sum_of, sum_rows,
    sum_squares, table_of, times_row, unit_rows, whole_square, worth,
)
from swaprest.acting import acting_fault, led
from swaprest.errors import Broken, NoCount, NoRow, NoSum, NotNought, NotOne, TooDeep
from swaprest.grown import behind_trees, cut_joined, depth_of, grown, logged, put_behind
from swaprest.least import least_tree, told_by_least
from swaprest.making import beside, loose, turned
from swaprest.tables import Table
from swaprest.trees import is_of_leavings, tree_thing
from swaprest.words import of_thing

NO_COUNTS = (0, -1, 5, 6, 10 ** 40, True, False, None, "", "2", [], [2], (), (2,), (2, 1), [[]])


def cut_words(one, other):
    """All words a b of at most five letters."""
    return [(word, one) for word, one in joined_words(one, other) if len(word) <= 5]


def powers(total):
    """The powers of a sum, cut, from none to five of it."""
    found = [[((), I)]]
    for _ in range(5):
        found.append(cut_words(found[-1], total))
    return found


def grown_plain(total):
    return sum_of(add_terms(*[(Fraction(1, factorial(k)), power) for k, power in enumerate(powers(total))]))


def logged_plain(total):
    rest = sum_of(add_terms((1, total), (-1, [((), I)])))
    return sum_of(add_terms(*[(Fraction((-1) ** (k + 1), k), power) for k, power in enumerate(powers(rest)) if k]))


def without_blank(total):
    return [(word, one) for word, one in total if word]


def sum_of_trees(count, salt):
    """A sum of leavings."""
    trees = [all_trees(many, count)[at % len(all_trees(many, count))] for many, at in zip((1, 1, 2, 3, 4), drawn(salt, 5, 10 ** 6))]
    return sum_of(add_terms(*[(Fraction(k + 1, 3 - k % 2), said_plain(tree)) for k, tree in enumerate(trees)]))


class CutJoined(Case):
    def test_written_out(self):
        one, other = [((), I), ((0, 0, 0), (2, 1))], [((1,), I), ((1, 1, 1), (3, 1))]
        wanted = [((1,), I), ((1, 1, 1), (3, 1)), ((0, 0, 0, 1), (2, 1))]
        self.assertEqual(self.ask(cut_joined, 2, one, other), wanted)
        self.assertEqual(self.ask(cut_joined, 2, [((0, 1, 0, 1, 0), I)], [((0,), I)]), [])
        self.assertEqual(self.ask(cut_joined, 2, [((0, 1, 0, 1, 0), I)], [((), I), ((0,), I)]), [((0, 1, 0, 1, 0), I)])

    def test_against_joined(self):
        for count in range(1, 5):
            for salt in range(20):
                one, other = mixed_sum(count, 1 + salt % 5, 6, salt), mixed_sum(count, 1 + salt // 5 % 5, 6, salt + 40)
                told = self.ask(cut_joined, count, one, other)
                self.assertTrue(is_plain_sum(told, count))
                self.assertEqual(told, cut_words(one, other))

    def test_all_lengths(self):
        for long, other in itertools.product(range(6), repeat=2):
            told = self.ask(cut_joined, 2, [((0,) * long, I)], [((1,) * other, (2, 1))])
            self.assertEqual(told, [((0,) * long + (1,) * other, (2, 1))] if long + other <= 5 else [])

    def test_nothing(self):
        total = mixed_sum(3, 5, 6, 2)
        self.assertEqual(self.ask(cut_joined, 3, [], total), [])
        self.assertEqual(self.ask(cut_joined, 3, total, []), [])
        self.assertEqual(self.ask(cut_joined, 3, total, [((), I)]), total)


class GrownAndLogged(Case):
    def test_written_out(self):
        wanted = [((0,) * k, (1, factorial(k))) for k in range(6)]
        self.assertEqual(self.ask(grown, 1, [((0,), I)]), wanted)
        self.assertEqual(self.ask(logged, 1, wanted), [((0,), I)])
        self.assertEqual(self.ask(logged, 1, [((), I), ((0,), I)]), [((0,) * k, ((-1) ** (k + 1), k)) for k in range(1, 6)])
        self.assertEqual(self.ask(grown, 2, []), [((), I)])
        self.assertEqual(self.ask(logged, 2, [((), I)]), [])
        self.assertEqual(self.ask(grown, 2, [((0, 1), (2, 1))]), [((), I), ((0, 1), (2, 1)), ((0, 1, 0, 1), (2, 1))])

    def test_against_powers(self):
        for count in range(1, 5):
            for salt in range(8):
                total = without_blank(mixed_sum(count, 1 + salt % 5, 4, salt + count * 30))
                told = self.ask(grown, count, total)
                self.assertTrue(is_plain_sum(told, count))
                self.assertEqual(told, grown_plain(total))
                told = self.ask(logged, count, [((), I)] + total)
                self.assertTrue(is_plain_sum(told, count))
                self.assertEqual(told, logged_plain([((), I)] + total))

    def test_each_undoes_the_other(self):
        for count in range(1, 5):
            for salt in range(8):
                total = without_blank(mixed_sum(count, 1 + salt % 5, 4, salt + count * 50))
                self.assertEqual(self.ask(logged, count, grown(count, total)), total)
                self.assertEqual(self.ask(grown, count, logged(count, [((), I)] + total)), [((), I)] + total)

    def test_put_behind_one_another_they_are_of_leavings(self):
        for count in range(1, 4):
            for salt in range(5):
                one, other = sum_of_trees(count, salt), sum_of_trees(count, salt + 20)
                told = logged(count, cut_joined(count, grown(count, one), grown(count, other)))
                self.assertIs(is_of_leavings(count, told), True)
        told = logged(2, cut_joined(2, grown(2, [((0, 1), I)]), grown(2, [((1,), I)])))
        self.assertIs(is_of_leavings(2, told), False)

    def test_one_that_passes_itself(self):
        total = [((0,), I), ((0, 1), (1, 2))]
        twice = sum_of(add_terms((2, total)))
        self.assertEqual(cut_joined(2, grown(2, total), grown(2, total)), grown(2, twice))
        back = sum_of(add_terms((-1, total)))
        self.assertEqual(cut_joined(2, grown(2, total), grown(2, back)), [((), I)])

    def test_what_was_told_may_be_handed_in(self):
        total = grown(4, [((letter,), number(Fraction(letter + 1, 2))) for letter in range(4)])
        self.assertEqual(len(total), 1365)
        self.assertEqual(logged(4, total), [((letter,), number(Fraction(letter + 1, 2))) for letter in range(4)])
        self.assertEqual(cut_joined(4, total, total), grown(4, [((letter,), (letter + 1, 1)) for letter in range(4)]))

    def test_large_numbers(self):
        tall = 10 ** 999 + 7
        total = [((0,), (tall, 3)), ((1, 0), (1, tall))]
        self.assertEqual(self.ask(grown, 2, total), grown_plain(total))
        self.assertEqual(self.ask(logged, 2, grown(2, total)), total)

    def test_refusals(self):
        for wrong in NO_COUNTS:
            for total in ([], [None], [((), I)], [((), (2, 1))]):
                self.refused(grown, (wrong, total), NoCount)
                self.refused(logged, (wrong, total), NoCount)
                self.refused(cut_joined, (wrong, total, total), NoCount)
        for total, place in no_sums():
            self.refused(grown, (3, total), NoSum, place=place)
            self.refused(logged, (3, total), NoSum, place=place)
            self.refused(cut_joined, (3, total, []), NoSum, place=place)
            self.refused(cut_joined, (3, total, [((), I), None]), NoSum, place=place)
            self.refused(cut_joined, (3, [((0,) * 5, I)], total), NoSum, place=place)
        for count in range(1, 5):
            for one in (I, (-1, 1), (2, 3)):
                self.refused(grown, (count, [((), one)]), NotNought)
                self.refused(grown, (count, [((), one), ((0,), I)]), NotNought)
            for total in ([], [((0,), I)], [((), (2, 1))], [((), (-1, 1)), ((0,), I)], [((), (1, 2)), ((0, 0), I)]):
                self.refused(logged, (count, total), NotOne)
            self.refused(grown, (count, [((), I), ((count,), I)]), NoSum, place=1)
            self.refused(logged, (count, [((), (2, 1)), ((count,), I)]), NoSum, place=1)


class BehindTrees(Case):
    def test_written_out(self):
        told = self.ask(behind_trees)
        self.assertEqual(told[:6], [
            (0, I), (1, I), ((0, 1), (1, 2)), ((0, (0, 1)), (1, 12)), (((0, 1), 1), (1, 12)), ((0, ((0, 1), 1)), (1, 24)),
        ])
        self.assertEqual(told[6:], [
            ((0, (0, (0, (0, 1)))), (-1, 720)), ((0, (0, ((0, 1), 1))), (1, 180)), (((0, (0, 1)), (0, 1)), (1, 360)),
            ((0, (((0, 1), 1), 1)), (1, 180)), (((0, 1), ((0, 1), 1)), (1, 120)), (((((0, 1), 1), 1), 1), (-1, 720)),
        ])

    def test_by_the_words_of_point_33(self):
        total = logged(2, cut_joined(2, grown(2, [((0,), I)]), grown(2, [((1,), I)])))
        wanted = []
        for words, one in told_by_least(2, total):
            self.assertEqual(len(words), 1)
            wanted.append((least_tree(words[0]), one))
        self.assertEqual(behind_trees(), wanted)

    def test_what_they_say_grows_to_both(self):
        total = sum_of(add_terms(*[(worth(one), said_plain(tree)) for tree, one in behind_trees()]))
        wanted = cut_words(grown_plain([((0,), I)]), grown_plain([((1,), I)]))
        self.assertEqual(grown_plain(total), wanted)


def chain(count, ending):
    """The leavings of a table in which of 0 and each way the next one is left, of the last one the number alone."""
    found = [(0, k, [I if at == k + 1 else N for at in range(count + 1)]) for k in range(1, count)]
    return found if ending else found[:-1]


# As a chain, but something is left of two that were left already.
CROSSED = [
    (0, 1, nums(0, 0, 1, 0, 0, 0, 0)), (0, 2, nums(0, 0, 0, 1, 0, 0, 0)), (0, 3, nums(0, 0, 0, 0, 1, 0, 0)),
    (2, 3, nums(0, 0, 0, 0, 0, -1, 0)), (1, 4, nums(0, 0, 0, 0, 0, 1, 0)),
]

# Tables by their depths; None for those that aren't thin.
DEPTHS = [
    (5, 6, CROSSED),
    (1, 1, []), (1, 6, []), (2, *KEEPS["place and push"]), (2, *KEEPS["three in a row"]), (2, *KEEPS["two places, two pushes"]),
    (3, *KEEPS["two letters, three deep"]), (2, 3, chain(3, False)), (3, 3, chain(3, True)), (3, 4, chain(4, False)),
    (4, 4, chain(4, True)), (4, 5, chain(5, False)), (5, 5, chain(5, True)), (5, 6, chain(6, False)), (6, 6, chain(6, True)),
    (None, *KEEPS["turns and moves"]), (None, *KEEPS["third and alone"]), (None, *KEEPS["two by two"]), (None, *KEEPS["round"]),
    (None, *KEEPS["two by two, shifted"]), (None, *KEEPS["grown by a turn"]), (None, *KEEPS["all of two by two"]),
    (None, 3, [(0, 2, nums(0, 0, 1, 0))]), (None, 4, [(0, 1, nums(0, 0, 1, 0, 0)), (0, 3, nums(0, 0, 0, 1, 0))]),
]
LOOSE = [(1, 1), (2, 1), (3, 1), (4, 1), (5, 1), (6, 1), (2, 2), (2, 3), (3, 2)]


def depth_plain(count, leavings):
    """The depth by units alone: the most that are left of one another, one behind the other; None above seven."""
    units = unit_rows(count + 1)[:count]
    # Things that may be left of so many units; sums of them don't leave less.
    things = units
    for depth in range(1, 9):
        things = [left_row(count, leavings, unit, thing) for unit in units for thing in things]
        things = [list(row) for row in {tuple(row) for row in things} if any(one != N for one in row)]
        if not things:
            return depth
    return None


class DepthOf(Case):
    def test_of_each_depth(self):
        for depth, count, leavings in DEPTHS:
            self.assertEqual(self.ask(depth_of, Table(count, leavings)), depth, leavings)
            self.assertEqual(depth_plain(count, leavings), depth)

    def test_loose_ones(self):
        for letters, depth in LOOSE:
            self.assertEqual(self.ask(depth_of, loose(letters, depth)), depth)

    def test_beside(self):
        for (one, *first), (other, *second) in itertools.product(DEPTHS, repeat=2):
            if first[0] + second[0] <= 6:
                wanted = None if None in (one, other) else max(one, other)
                self.assertEqual(depth_of(beside(Table(*first), Table(*second))), wanted)

    def test_turned(self):
        for salt, (depth, count, leavings) in enumerate(DEPTHS):
            rows = [row[:count] + [(k, 3)] if (k % 3) else row for k, row in enumerate(mixed_grid(count, count + 1, salt + 3))]
            self.assertEqual(depth_of(turned(Table(count, leavings), rows)), depth)

    def test_broken(self):
        for name, (count, leavings) in BREAKS.items():
            self.refused(depth_of, (table_of(name),), Broken, at=first_break(count, leavings)[:3])


def thin_tables():
    return [Table(count, leavings) for depth, count, leavings in DEPTHS if depth in range(1, 6)] + [loose(*one) for one in LOOSE]


def square_power(square, many):
    found = still(len(square))
    for _ in range(many):
        found = after_plain(found, square)
    return found


def grown_square(square):
    """The grown square of one that comes to noughts."""
    side = len(square)
    return sum_squares(side, *[(Fraction(1, factorial(k)), square_power(square, k)) for k in range(side + 1)])


# All places above the main line of side 4, and what is left of them.
ABOVE = [whole_square(*[[1 if (r, k) == place else 0 for k in range(4)] for r in range(4)]) for place in ((0, 1), (1, 2), (2, 3), (0, 2), (1, 3), (0, 3))]
ABOVE_TABLE = Table(6, [
    (0, 1, nums(0, 0, 0, 1, 0, 0, 0)), (1, 2, nums(0, 0, 0, 0, 1, 0, 0)), (0, 4, nums(0, 0, 0, 0, 0, 1, 0)), (2, 3, nums(0, 0, 0, 0, 0, -1, 0)),
])
CHAIN = [
    whole_square((0, 1, 0, 0), (0, 0, 1, 0), (0, 0, 0, 1), (0, 0, 0, 0)), whole_square((0, 0, 0, 0), (0, 0, 0, 0), (0, 0, 0, 1), (0, 0, 0, 0)),
    whole_square((0, 0, 0, 0), (0, 0, 0, 1), (0, 0, 0, 0), (0, 0, 0, 0)), whole_square((0, 0, 0, 1), (0, 0, 0, 0), (0, 0, 0, 0), (0, 0, 0, 0)),
]


class PutBehind(Case):
    def test_written_out(self):
        self.assertEqual(self.ask(put_behind, table_of("place and push"), nums(1, 0, 0), nums(0, 1, 0)), [I, I, (1, 2)])
        self.assertEqual(self.ask(put_behind, table_of("place and push"), nums(0, 1, 5), nums(1, 0, 2)), [I, I, (13, 2)])
        told = self.ask(put_behind, loose(2, 3), nums(1, 0, 0, 0, 0, 0), nums(0, 1, 0, 0, 0, 0))
        self.assertEqual(told, [I, I, (1, 2), (1, 12), (-1, 12), N])
        self.assertEqual(self.ask(put_behind, Table(2, []), nums(1, 2, 3), nums(4, 5, 6)), nums(5, 7, 9))

    def test_by_the_words_of_point_34(self):
        for salt, table in enumerate(thin_tables()):
            for turn in range(3):
                one, other = mixed_grid(2, table.count + 1, salt + turn * 100)
                told = self.ask(put_behind, table, one, other)
                self.assertTrue(is_plain_row(told, table.count + 1))
                wanted = [times_row(weight, tree_thing(table, [one, other], tree)) for tree, weight in behind_trees()]
                self.assertEqual(told, sum_rows(*wanted))

    def test_three_put_together_either_way(self):
        unlike = 0
        for salt, table in enumerate(thin_tables()):
            for turn in range(4):
                one, two, three = mixed_grid(3, table.count + 1, salt + turn * 50 + 7)
                left = self.ask(put_behind, table, put_behind(table, one, two), three)
                self.assertEqual(left, self.ask(put_behind, table, one, put_behind(table, two, three)))
                unlike += put_behind(table, one, two) != put_behind(table, two, one)
        self.assertGreater(unlike, 50)

    def test_noughts_and_the_contrary(self):
        for salt, table in enumerate(thin_tables()):
            (one,) = mixed_grid(1, table.count + 1, salt + 17)
            nothing = [N] * (table.count + 1)
            self.assertEqual(self.ask(put_behind, table, one, nothing), one)
            self.assertEqual(self.ask(put_behind, table, nothing, one), one)
            self.assertEqual(self.ask(put_behind, table, one, times_row((-1, 1), one)), nothing)
            self.assertEqual(self.ask(put_behind, table, times_row((-1, 1), one), one), nothing)
            self.assertEqual(self.ask(put_behind, table, one, one), times_row((2, 1), one))

    def test_grown_squares(self):
        for acted, by in ((Table(4, chain(4, False)), CHAIN), (ABOVE_TABLE, ABOVE)):
            self.assertIsNone(acting_fault(acted, by))
            for salt in range(6):
                one, other = [row[:-1] + [N] for row in mixed_grid(2, acted.count + 1, salt + 9)]
                third = put_behind(acted, one, other)
                first, second, both = [grown_square(led(acted, by, of_thing(acted, thing))) for thing in (one, other, third)]
                self.assertEqual(both, after_plain(first, second))

    def test_large_numbers(self):
        tall = 10 ** 999 + 7
        table = loose(2, 3)
        one, other, third = [(tall, 3)] * 6, [(1, tall), (2, 1), N, N, (tall, 7), N], nums(1, 2, 3, 4, 5, 6)
        left = self.ask(put_behind, table, put_behind(table, one, other), third)
        self.assertEqual(left, put_behind(table, one, put_behind(table, other, third)))

    def test_refusals(self):
        right = nums(1, 2, 3, 4)
        for name, (count, leavings) in BREAKS.items():
            for one, other in ((right, right), (None, None), (nums(*[0] * (count + 1)), nums(*[0] * (count + 1)))):
                self.refused(put_behind, (table_of(name), one, other), Broken, at=first_break(count, leavings)[:3])
        for depth, count, leavings in DEPTHS:
            if depth is None or depth > 5:
                for one, other in ((nums(*[0] * (count + 1)), nums(*[0] * (count + 1))), (None, None)):
                    self.refused(put_behind, (Table(count, leavings), one, other), TooDeep)
        wrong = [*NO_LISTS, [], nums(1, 2, 3), nums(1, 2, 3, 4, 5), *[[I, I, I, one] for one in NO_NUMBERS], *[[one, I, I, I] for one in NO_NUMBERS]]
        for one in wrong:
            self.refused(put_behind, (table_of("three in a row"), one, right), NoRow, place=0)
            self.refused(put_behind, (table_of("three in a row"), one, None), NoRow, place=0)
            self.refused(put_behind, (table_of("three in a row"), right, one), NoRow, place=1)


if __name__ == "__main__":
    unittest.main()
