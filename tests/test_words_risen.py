"""risen and two_ways: held against walks in several orders, and against squares and moves of rows that act."""

import itertools
import unittest
from fractions import Fraction
from math import factorial

from reckon import (
    BREAKS, I, KEEPS, N, Case, drawn, falls, first_break, is_plain_sum, is_rising, mixed_grid, mixed_leavings, mixed_sum,
    number, nums, rank, rise_by, shape, sum_of, table_of, terms_of, unit_rows, worth, wrong_terms,
)
from swaprest.errors import Broken, NoSum
from swaprest.making import beside, turned
from swaprest.squares import after
from swaprest.tables import Table
from swaprest.words import risen, steps_up, two_ways, walked

ORDERS = {
    "first": lambda steps: steps[0],
    "last": lambda steps: steps[-1],
    "middle": lambda steps: steps[len(steps) // 2],
    "mixed": lambda steps: steps[drawn(len(steps) * 31 + len(steps[0][0]), 1, len(steps))[0]],
}


def dense(name, salt):
    """One of the tables, turned to things with all numbers."""
    count = KEEPS[name][0]
    rows = mixed_grid(count, count + 1, salt)
    assert rank([row[:-1] for row in rows]) == count
    table = turned(table_of(name), rows)
    return count, [(i, j, list(row)) for i, j, row in table.leavings]


SAMPLES = {
    **KEEPS,
    "two by two, turned": dense("two by two", 3),
    "three in a row, turned": dense("three in a row", 3),
    "turns and moves, turned": dense("turns and moves", 5),
}


def times_square(weight, square):
    return [[number(worth(weight) * worth(one)) for one in row] for row in square]


def plus_square(one, other):
    return [[number(worth(x) + worth(y)) for x, y in zip(*rows)] for rows in zip(one, other)]


def square_of(squares, total):
    """The square to which a sum is led by squares of the ways."""
    side = len(squares[0])
    found = [[N] * side for _ in range(side)]
    for word, one in total:
        square = unit_rows(side)
        for way in word:
            square = after(square, squares[way])
        found = plus_square(found, times_square(one, square))
    return found


class Risen(Case):
    def check(self, count, leavings, total, orders):
        told = self.ask(risen, Table(count, leavings), total)
        self.assertTrue(is_plain_sum(told, count))
        self.assertTrue(is_rising(told))
        for name in orders:
            wanted = sum_of(rise_by(leavings, terms_of(total), ORDERS[name]))
            self.assertEqual(shape(told), shape(wanted), name)
        return told

    def test_written_out(self):
        self.assertEqual(self.ask(risen, table_of("place and push"), [((1, 0), I)]), [((), (-1, 1)), ((0, 1), I)])
        self.assertEqual(self.ask(risen, table_of("two by two"), [((2, 1, 0), I)]), [((0, 0), (-1, 1)), ((0, 1, 2), I)])
        self.assertEqual(self.ask(risen, table_of("two by two"), []), [])
        self.assertEqual(self.ask(risen, Table(3, []), [((0, 2, 1), I), ((2, 1, 0), I)]), [
            ((0, 1, 2), (2, 1)),
        ])
        self.assertEqual(self.ask(risen, Table(2, []), [((0, 1), I), ((1, 0), (-1, 1))]), [])

    def test_rising_words_stay(self):
        for count, leavings in SAMPLES.values():
            total = [(word, (k + 3, 2 * k + 7)) for k, word in enumerate([(), (0,), (0, 0), (0, 0, count - 1), (0,) * 5])]
            self.assertEqual(self.ask(risen, Table(count, leavings), total), total)

    def test_every_short_word(self):
        for name in ("two by two, shifted", "two by two, turned", "three in a row, turned", "third and alone"):
            count, leavings = SAMPLES[name]
            for long in range(4):
                for word in itertools.product(range(count), repeat=long):
                    self.check(count, leavings, [(word, (2, 3))], ORDERS)

    def test_longer_words(self):
        for name in ("two by two, shifted", "round", "three in a row", "place and push", "third and alone"):
            count, leavings = SAMPLES[name]
            words = list(itertools.product(range(count), repeat=4)) + list(itertools.product(range(count), repeat=5))
            for word in words[3::len(words) // 12]:
                self.check(count, leavings, [(word, I)], ("first", "mixed"))

    def test_sums(self):
        for salt, (count, leavings) in enumerate(SAMPLES.values()):
            self.check(count, leavings, mixed_sum(count, 4, 8, salt), ("last", "mixed"))
            self.check(count, leavings, mixed_sum(count, 3, 8, salt + 50), ("first", "middle"))

    def test_the_steps_up_lead_there(self):
        for salt, (count, leavings) in enumerate(SAMPLES.values()):
            table, total = Table(count, leavings), mixed_sum(count, 5, 6, salt + 20)
            self.assertEqual(risen(table, total), walked(table, total, steps_up(table, total)))

    def test_risen_twice(self):
        for salt, (count, leavings) in enumerate(SAMPLES.values()):
            once = risen(Table(count, leavings), mixed_sum(count, 5, 6, salt + 70))
            self.assertEqual(self.ask(risen, Table(count, leavings), once), once)

    def test_moves_of_many(self):
        # 0 takes the rise of a row of powers, 1 takes it times: of x to the n, and so on.
        table = table_of("place and push")

        def acts(word, power):
            share = Fraction(1)
            for way in reversed(word):
                share, power = (share * power, power - 1) if way == 0 else (share, power + 1)
            return {power: share} if share else {}

        for word in itertools.product((0, 1), repeat=5):
            told = risen(table, [(word, I)])
            for power in range(7):
                found = {}
                for other, one in told:
                    for at, share in acts(other, power).items():
                        found[at] = found.get(at, 0) + worth(one) * share
                self.assertEqual({at: one for at, one in found.items() if one}, acts(word, power))

    def test_a_known_sum(self):
        told = risen(table_of("place and push"), [((1, 1, 1, 0, 0), I)])
        wanted = {}
        for k in range(3):
            many = factorial(2) * factorial(3) // (factorial(k) * factorial(2 - k) * factorial(3 - k))
            wanted[(0,) * (2 - k) + (1,) * (3 - k)] = Fraction((-1) ** k * many)
        self.assertEqual(told, sum_of(wanted))

    def test_squares_that_act(self):
        spin = [
            [nums(3, 0, 0, 0), nums(0, 1, 0, 0), nums(0, 0, -1, 0), nums(0, 0, 0, -3)],
            [nums(0, 3, 0, 0), nums(0, 0, 2, 0), nums(0, 0, 0, 1), nums(0, 0, 0, 0)],
            [nums(0, 0, 0, 0), nums(1, 0, 0, 0), nums(0, 2, 0, 0), nums(0, 0, 3, 0)],
        ]
        for salt in range(12):
            total = mixed_sum(3, 5, 6, salt + 90)
            self.assertEqual(square_of(spin, risen(table_of("two by two"), total)), square_of(spin, total))

    def test_six_ways(self):
        table = beside(table_of("two by two"), table_of("round"))
        leavings = [(i, j, list(row)) for i, j, row in table.leavings]
        self.check(6, leavings, mixed_sum(6, 4, 10, 5), ("first", "last"))
        self.check(6, leavings, [((5, 4, 2, 1, 0), I)], ("first", "mixed"))
        turned_one = turned(table, [row[:6] + [one] for row, one in zip(
            [nums(*[1 if at <= k else 0 for at in range(6)]) for k in range(6)], nums(1, 0, -2, 0, 3, 0))])
        leavings = [(i, j, list(row)) for i, j, row in turned_one.leavings]
        self.check(6, leavings, [((5, 4, 3), (1, 2)), ((5, 4, 3, 0), I)], ("first", "mixed"))

    def test_large_numbers(self):
        tall = 10 ** 999 + 7
        leavings = [(0, 1, [(tall, 3), (1, tall), (-5, 7)])]
        told = self.check(2, leavings, [((1, 0), (tall, 2)), ((1, 1, 0), I)], ("first",))
        self.check(2, leavings, told, ("first",))

    def test_no_sum_then_broken(self):
        for wrong in wrong_terms(3):
            self.refused(risen, (table_of("two by two"), [wrong]), NoSum, place=0)
            self.refused(risen, (table_of("thirds"), [((), I), wrong]), NoSum, place=1)
        for name, (count, leavings) in BREAKS.items():
            for total in ([], [((), I)], [((1, 0), I)]):
                self.refused(risen, (table_of(name), total), Broken, at=first_break(count, leavings)[:3])


class TwoWays(Case):
    def test_none_where_the_rule_is_kept(self):
        for name in KEEPS:
            self.assertIsNone(self.ask(two_ways, table_of(name)))

    def check(self, count, leavings):
        table = Table(count, leavings)
        told = self.ask(two_ways, table)
        i, j, k, row = first_break(count, leavings)
        self.assertIs(told.__class__, tuple)
        word, one, other = told
        self.assertEqual(shape(word), shape((k, j, i)))
        ends = []
        for steps in (one, other):
            self.assertIs(steps.__class__, list)
            end = walked(table, [(word, I)], steps)
            self.assertTrue(is_rising(end))
            ends.append(end)
        self.assertNotEqual(*ends)

    def test_tables_that_break_it(self):
        for count, leavings in BREAKS.values():
            self.check(count, leavings)

    def test_mixed_tables(self):
        for count in (3, 4, 5, 6):
            broken = [one for one in [mixed_leavings(count, salt) for salt in range(8)] if first_break(count, one)]
            self.assertGreater(len(broken), 4)
            for leavings in broken:
                self.check(count, leavings)

    def test_all_small_ones(self):
        for rows in itertools.product([nums(0, 0, 0, 0)] + unit_rows(4), repeat=3):
            leavings = [(i, j, row) for (i, j), row in zip(((0, 1), (0, 2), (1, 2)), rows)]
            if first_break(3, leavings):
                self.check(3, leavings)
            else:
                self.assertIsNone(two_ways(Table(3, leavings)))

    def test_a_word_that_falls_at_both_places(self):
        word = two_ways(table_of("late"))[0]
        self.assertEqual(word, (5, 4, 1))
        self.assertEqual(falls(word), [0, 1])


if __name__ == "__main__":
    unittest.main()
