"""passes and passing: held against swap_of, against another reckoning of how many there are, and what they refuse."""

import itertools
import unittest

from reckon import (
    BREAKS, I, KEEPS, N, Case, add_terms, first_break, is_plain_sum, is_rising, joined_words, kept_faults, mixed_sum,
    number, rank, rise_plain, rising_words, sum_of, table_of, terms_of,
)
from swaprest.errors import Broken, NoCount, NoSum, TooLong
from swaprest.making import beside, loose
from swaprest.passing import passes, passing
from swaprest.sums import swap_of
from swaprest.tables import Table

NO_COUNTS = (-1, 4, 5, 60, 10 ** 40, True, False, None, "", "1", [], [1], (), (1,), (1, 1), [[]])


def units(count):
    """The sum of each way alone."""
    return [[((way,), I)] for way in range(count)]


def swapped(leavings, one, other):
    """The one put behind the other less the other way about, risen."""
    return rise_plain(leavings, sum_of(add_terms((1, joined_words(one, other)), (-1, joined_words(other, one)))))


def how_many(count, leavings, others, most):
    """How many sums pass each of the others, reckoned word by word."""
    words = rising_words(count, most)
    columns = []
    for word in words:
        swaps = [terms_of(swapped(leavings, [(word, I)], other)) for other in others]
        columns.append({(at, key): one for at, swap in enumerate(swaps) for key, one in swap.items()})
    keys = sorted({key for column in columns for key in column})
    rows = [[number(column[key]) if key in column else N for column in columns] for key in keys]
    return len(words) - rank(rows)


def row_of(words, total):
    """The numbers of a sum at the words."""
    numbers = dict(total)
    return [numbers.get(word, N) for word in words]


class Passes(Case):
    def test_written_out(self):
        table = table_of("two by two")
        middle = [((0,), (-2, 1)), ((0, 0), I), ((1, 2), (4, 1))]
        for way in range(3):
            self.assertIs(self.ask(passes, table, middle, [((way,), I)]), True)
            self.assertIs(self.ask(passes, table, [((way,), I)], middle), True)
            self.assertIs(self.ask(passes, table, [((way,), I)], [(((way + 1) % 3,), I)]), False)
        self.assertIs(self.ask(passes, table, middle, middle), True)
        self.assertIs(self.ask(passes, table, [], middle), True)
        self.assertIs(self.ask(passes, table, [((0, 1, 2, 1, 0), I)], []), True)
        self.assertIs(self.ask(passes, table_of("place and push"), [((0,), I)], [((1,), I)]), False)

    def test_just_where_swap_of_is_nought(self):
        seen = {True: 0, False: 0}
        for salt, (count, leavings) in enumerate(KEEPS.values()):
            table = Table(count, leavings)
            for turn in range(6):
                one, other = mixed_sum(count, 2, 1 + turn % 2, salt + turn), mixed_sum(count, 3, 1 + turn // 3, salt + turn + 9)
                told = self.ask(passes, table, one, other)
                self.assertIs(told, swap_of(table, one, other) == [])
                self.assertEqual(told, swapped(leavings, one, other) == [])
                seen[told] += 1
        self.assertGreater(min(seen.values()), 15)

    def test_sums_that_are_risen_to_the_same(self):
        table = table_of("place and push")
        self.assertIs(passes(table, [((0, 1), I)], [((1, 0), I)]), True)
        self.assertIs(passes(table, [((0, 1), I), ((1, 0), (-1, 1))], [((1,), I)]), True)

    def test_refused_as_swap_of_is(self):
        table, long = table_of("round"), [((0,) * 3, I)]
        self.refused(passes, (table, [None], [((), I), None]), NoSum, place=0)
        self.refused(passes, (table, long, [((), I), None]), NoSum, place=1)
        self.refused(passes, (table, long, long), TooLong)
        self.refused(passes, (table_of("in a ring"), long, long), TooLong)
        for name, (count, leavings) in BREAKS.items():
            for one, other in (([], []), ([((0,), I)], [((0,), I)])):
                self.refused(passes, (table_of(name), one, other), Broken, at=first_break(count, leavings)[:3])


class Passing(Case):
    def check(self, count, leavings, others, most):
        told = self.ask(passing, Table(count, leavings), others, most)
        self.assertIs(told.__class__, list)
        words = rising_words(count, most)
        for total in told:
            self.assertTrue(is_plain_sum(total, count))
            self.assertTrue(is_rising(total))
            self.assertTrue(all(len(word) <= most for word, _ in total))
            for other in others:
                self.assertEqual(swapped(leavings, total, other), [])
        self.assertEqual(kept_faults([row_of(words, total) for total in told], len(words)), "")
        self.assertEqual(len(told), how_many(count, leavings, others, most))
        return told

    def test_written_out(self):
        middle = [((0,), I), ((0, 0), (-1, 2)), ((1, 2), (-2, 1))]
        self.assertEqual(self.ask(passing, table_of("two by two"), units(3), 2), [[((), I)], middle])
        self.assertEqual(self.ask(passing, table_of("two by two"), units(3), 3), [[((), I)], middle])
        self.assertEqual(self.ask(passing, table_of("two by two"), units(3), 1), [[((), I)]])
        self.assertEqual(self.ask(passing, table_of("place and push"), [[((0,), I)]], 2), [[((), I)], [((0,), I)], [((0, 0), I)]])
        self.assertEqual(self.ask(passing, table_of("place and push"), units(2), 3), [[((), I)]])

    def test_of_an_empty_list(self):
        for name in KEEPS:
            table = table_of(name)
            for most in range(4):
                words = rising_words(table.count, most)
                if len(words) <= 60:
                    self.assertEqual(self.ask(passing, table, [], most), [[(word, I)] for word in words])
                    self.assertEqual(self.ask(passing, table, [[], [((), (2, 1))]], most), [[(word, I)] for word in words])

    def test_up_to_no_way(self):
        for salt, (count, leavings) in enumerate(KEEPS.values()):
            self.assertEqual(self.check(count, leavings, [mixed_sum(count, 5, 4, salt)], 0), [[((), I)]])

    def test_the_middle_of_a_table(self):
        for name in KEEPS:
            count, leavings = KEEPS[name]
            for most in range(4 if count < 4 else 3):
                self.check(count, leavings, units(count), most)

    def test_known_middles(self):
        def many(table, most):
            return len(self.ask(passing, table, units(table.count), most))

        self.assertEqual([many(table_of("two by two"), most) for most in range(4)], [1, 1, 2, 2])
        self.assertEqual([many(table_of("round"), most) for most in range(4)], [1, 1, 2, 2])
        self.assertEqual([many(table_of("all of two by two"), most) for most in range(4)], [1, 2, 4, 6])
        self.assertEqual([many(table_of("three in a row"), most) for most in range(4)], [1, 2, 3, 4])
        self.assertEqual([many(loose(2, 3), most) for most in range(4)], [1, 3, 7, 13])
        self.assertEqual([many(loose(5, 1), most) for most in range(4)], [1, 6, 21, 56])
        self.assertEqual([many(table_of("two places, two pushes"), most) for most in range(4)], [1, 1, 1, 1])
        self.assertEqual([many(table_of("turns and moves"), most) for most in range(4)], [1, 1, 1, 1])
        both = beside(table_of("two by two"), table_of("round"))
        self.assertEqual([many(both, most) for most in range(3)], [1, 1, 3])

    def test_single_sums(self):
        for salt, name in enumerate(("third and alone", "two by two, shifted", "round", "three in a row", "grown by a turn")):
            count, leavings = KEEPS[name]
            for most, long in ((1, 4), (2, 3), (3, 2), (2, 1)):
                self.check(count, leavings, [mixed_sum(count, long, 2, salt + most)], most)
                self.check(count, leavings, [[((count - 1,) * long, I)]], most)

    def test_several_sums(self):
        for salt, name in enumerate(("third and alone", "two by two, shifted", "all of two by two")):
            count, leavings = KEEPS[name]
            for most in range(3):
                self.check(count, leavings, [[((way, way), I)] for way in range(count)], most)
                self.check(count, leavings, [mixed_sum(count, 2, 2, salt), [], mixed_sum(count, 1, 2, salt + 5)], most)

    def test_a_sum_passes_itself(self):
        for salt, (count, leavings) in enumerate(KEEPS.values()):
            total = rise_plain(leavings, mixed_sum(count, 2, 3, salt + 1))
            told = passing(Table(count, leavings), [total], 2)
            words = rising_words(count, 2)
            rows = [row_of(words, one) for one in told]
            self.assertEqual(rank(rows + [row_of(words, total)]), len(rows))

    def test_sums_that_are_not_rising(self):
        for name in ("two by two, shifted", "third and alone"):
            count, leavings = KEEPS[name]
            self.check(count, leavings, [[((1, 0), I)], [((1, 0, 1), (2, 3))]], 2)

    def test_the_same_sum_twice(self):
        table = table_of("two by two")
        once = passing(table, [[((0,), I)]], 3)
        self.assertEqual(self.ask(passing, table, [[((0,), I)], [((0,), (-3, 1))]], 3), once)

    def test_what_is_told_may_be_handed_in(self):
        table = table_of("all of two by two")
        middle = passing(table, units(4), 2)
        self.assertEqual(len(passing(table, middle, 3)), len(rising_words(4, 3)))

    def test_large_numbers(self):
        tall = 10 ** 999 + 7
        leavings = [(0, 1, [N, (tall, 3), (1, tall)])]
        self.check(2, leavings, [[((0,), (tall, 7)), ((1,), I)]], 2)


class PassingRefusals(Case):
    def test_no_count_goes_first(self):
        for wrong in NO_COUNTS:
            for name in ("two by two", "in a ring"):
                for others in ([], [[None]], [[((0,) * 5, I)]], units(2)):
                    self.refused(passing, (table_of(name), others, wrong), NoCount)

    def test_then_the_first_that_is_no_sum(self):
        for name in ("two by two", "in a ring"):
            others = [[((0,) * 5, I)], [((), I), None], [None]]
            self.refused(passing, (table_of(name), others, 3), NoSum, place=1)
            self.refused(passing, (table_of(name), others[::-1], 3), NoSum, place=0)
            self.refused(passing, (table_of(name), [[], [((0,), I), ((1,), I), ((1,), I)]], 0), NoSum, place=2)

    def test_then_too_long(self):
        for long, most in itertools.product(range(6), range(4)):
            for name in ("two by two", "in a ring"):
                for others in (
                    [[((0,) * long, I)]], [[((0,) * long, I)], [((), I)]], [[], [((), I)], [((0,) * long, I)]],
                    [[((), I), ((0,) * long, I)][long == 0:]],
                ):
                    if long + most > 5:
                        self.refused(passing, (table_of(name), others, most), TooLong)
                    elif name in BREAKS:
                        self.refused(passing, (table_of(name), others, most), Broken, at=(0, 1, 2))
                    else:
                        self.assertTrue(passing(table_of(name), others, most))

    def test_words_that_would_go_out_count(self):
        total = [((0, 0, 1), I), ((0, 1, 0), (-1, 1))]
        self.refused(passing, (Table(2, []), [total], 3), TooLong)

    def test_then_broken(self):
        for name, (count, leavings) in BREAKS.items():
            for most in range(4):
                for others in ([], [[]], units(2)):
                    self.refused(passing, (table_of(name), others, most), Broken, at=first_break(count, leavings)[:3])


if __name__ == "__main__":
    unittest.main()
