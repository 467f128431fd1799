"""product, of_thing, thing_of, parted: held against points 16 and 17, and what they refuse."""

import itertools
import unittest
from fractions import Fraction

from reckon import (
    BREAKS, I, KEEPS, N, NO_LISTS, NO_NUMBERS, Case, first_break, is_bare, is_plain_number, is_plain_sum, is_rising,
    joined_words, mixed_grid, mixed_leavings, mixed_sum, nums, number, rise_plain, rising_words, shape, table_of, word_key,
    worth, wrong_terms,
)
from swaprest.errors import Broken, NoRow, NoSum, NotBare, TooLong
from swaprest.tables import Table
from swaprest.words import of_thing, parted, product, risen, thing_of

ALL = {**KEEPS, **BREAKS}
BARE = {name: one for name, one in KEEPS.items() if is_bare(one[1])}


def parts_of(total):
    """The parts of a sum of rising words, by the words of point 17."""
    found = {}
    for word, one in total:
        for chosen in itertools.product((True, False), repeat=len(word)):
            left = tuple(way for way, here in zip(word, chosen) if here)
            right = tuple(way for way, here in zip(word, chosen) if not here)
            found[left, right] = found.get((left, right), Fraction(0)) + worth(one)
    keys = sorted(found, key=lambda pair: (word_key(pair[0]), word_key(pair[1])))
    return [(left, right, number(found[left, right])) for left, right in keys if found[left, right] != 0]


class Product(Case):
    def check(self, count, leavings, one, other):
        told = self.ask(product, Table(count, leavings), one, other)
        self.assertTrue(is_plain_sum(told, count))
        self.assertTrue(is_rising(told))
        self.assertEqual(shape(told), shape(rise_plain(leavings, joined_words(one, other))))
        return told

    def test_written_out(self):
        table = table_of("place and push")
        self.assertEqual(self.ask(product, table, [((1,), (2, 1))], [((0,), (3, 2))]), [((), (-3, 1)), ((0, 1), (3, 1))])
        self.assertEqual(self.ask(product, table, [((0,), (2, 1))], [((1,), (3, 2))]), [((0, 1), (3, 1))])
        self.assertEqual(self.ask(product, Table(2, []), [((0,), I), ((1,), I)], [((0,), I), ((1,), (-1, 1))]), [
            ((0, 0), I), ((1, 1), (-1, 1)),
        ])

    def test_words_put_behind_one_another(self):
        for salt, (count, leavings) in enumerate(KEEPS.values()):
            for long in range(6):
                one, other = mixed_sum(count, long, 3, salt + 7), mixed_sum(count, 5 - long, 3, salt + 30)
                self.check(count, leavings, one, other)
            self.check(count, leavings, mixed_sum(count, 2, 6, salt), mixed_sum(count, 2, 6, salt))

    def test_three_put_together_either_way(self):
        for salt, (count, leavings) in enumerate(KEEPS.values()):
            table = Table(count, leavings)
            one, other, third = mixed_sum(count, 2, 4, salt), mixed_sum(count, 1, 3, salt + 9), mixed_sum(count, 2, 4, salt + 8)
            first = product(table, product(table, one, other), third)
            self.assertEqual(first, product(table, one, product(table, other, third)))
            one, other, third = mixed_sum(count, 1, 4, salt), mixed_sum(count, 2, 4, salt + 1), mixed_sum(count, 1, 4, salt + 2)
            first = product(table, product(table, one, other), third)
            self.assertEqual(first, product(table, one, product(table, other, third)))

    def test_the_word_without_ways(self):
        for salt, (count, leavings) in enumerate(KEEPS.values()):
            table, total = Table(count, leavings), mixed_sum(count, 5, 5, salt + 3)
            self.assertEqual(self.ask(product, table, [((), I)], total), risen(table, total))
            self.assertEqual(self.ask(product, table, total, [((), I)]), risen(table, total))
            self.assertEqual(self.ask(product, table, [], total), [])
            self.assertEqual(self.ask(product, table, total, []), [])
        self.assertEqual(self.ask(product, Table(1, []), [], []), [])

    def test_left_is_the_one_less_the_other_way_about(self):
        for name in ("two by two, shifted", "all of two by two", "third and alone"):
            count, leavings = KEEPS[name]
            rows = {(i, j): row for i, j, row in leavings}
            table = table_of(name)
            for i, j in itertools.combinations(range(count), 2):
                one = dict(product(table, [((i,), I)], [((j,), I)]))
                other = dict(product(table, [((j,), I)], [((i,), I)]))
                row = rows.get((i, j), [N] * (count + 1))
                for at, word in enumerate([(k,) for k in range(count)] + [()]):
                    self.assertEqual(worth(one.get(word, N)) - worth(other.get(word, N)), worth(row[at]))

    def test_like_words_are_added_up(self):
        one, other = [((), I), ((0,), I)], [((), (-1, 1)), ((0,), I)]
        self.assertEqual(self.ask(product, Table(1, []), one, other), [((), (-1, 1)), ((0, 0), I)])

    def test_the_same_sum_twice(self):
        total = [((0,), I), ((2,), I)]
        self.assertEqual(self.ask(product, table_of("round"), total, total), rise_plain(
            KEEPS["round"][1], joined_words(total, total)))

    def test_large_numbers(self):
        tall = 10 ** 999 + 7
        one = [((1,), (tall, 3)), ((1, 1), (1, tall))]
        told = self.check(*KEEPS["third and alone"], one, [((0,), (tall, 2)), ((0, 0), I)])
        self.assertEqual(product(table_of("third and alone"), told, [((), I)]), told)


class ProductRefusals(Case):
    def test_no_sum_the_first_one_first(self):
        long = [((0, 0, 0), I)]
        for name in ("two by two", "thirds"):
            table = table_of(name)
            for wrong in wrong_terms(3):
                self.refused(product, (table, [wrong], long), NoSum, place=0)
                self.refused(product, (table, long, [((), I), wrong]), NoSum, place=1)
                self.refused(product, (table, [((), I), wrong], [wrong]), NoSum, place=1)
                self.refused(product, (table, [wrong], [((), I), ((0,), I), wrong]), NoSum, place=0)
                self.refused(product, (table, [], [wrong]), NoSum, place=0)

    def test_too_long(self):
        for one, other in itertools.product(range(6), repeat=2):
            for name in ("two by two", "in a ring"):
                handed = (table_of(name), [((), I), ((0,) * one, I)][one == 0:], [((1,) * other, I)])
                if one + other > 5:
                    self.refused(product, handed, TooLong)
                elif name in BREAKS:
                    self.refused(product, handed, Broken, at=(0, 1, 2))
                else:
                    self.assertTrue(self.ask(product, *handed))

    def test_nothing_is_too_long_beside_no_words(self):
        self.assertEqual(self.ask(product, table_of("two by two"), [((0, 1, 2, 1, 0), I)], []), [])
        self.assertEqual(self.ask(product, table_of("two by two"), [], [((0, 1, 2, 1, 0), I)]), [])

    def test_words_that_would_go_out_count(self):
        total = [((0, 0, 1), I), ((0, 1, 0), (-1, 1))]
        self.assertEqual(risen(Table(2, []), total), [])
        self.refused(product, (Table(2, []), total, total), TooLong)

    def test_broken_goes_last(self):
        for name, (count, leavings) in BREAKS.items():
            at = first_break(count, leavings)[:3]
            for one, other in (([], []), ([((), I)], [((), I)]), ([((0,) * 3, I)], [((1, 0), I)])):
                self.refused(product, (table_of(name), one, other), Broken, at=at)
            self.refused(product, (table_of(name), [((0,) * 3, I)], [((0,) * 3, I)]), TooLong)


class Things(Case):
    def test_of_thing_written_out(self):
        self.assertEqual(self.ask(of_thing, table_of("thirds"), nums(3, 0, -1, 5)), [
            ((), (5, 1)), ((0,), (3, 1)), ((2,), (-1, 1)),
        ])
        self.assertEqual(self.ask(of_thing, Table(1, []), [(2, 3), N]), [((0,), (2, 3))])
        self.assertEqual(self.ask(of_thing, Table(1, []), [N, (2, 3)]), [((), (2, 3))])
        self.assertEqual(self.ask(of_thing, Table(6, []), [N] * 7), [])

    def test_of_thing(self):
        for salt, (count, leavings) in enumerate(ALL.values()):
            row = mixed_grid(1, count + 1, salt)[0]
            told = self.ask(of_thing, Table(count, leavings), row)
            self.assertTrue(is_plain_sum(told, count))
            wanted = [((), row[-1])] + [((way,), row[way]) for way in range(count)]
            self.assertEqual(told, [(word, one) for word, one in wanted if one != N])

    def test_one_undoes_the_other(self):
        for salt, (count, leavings) in enumerate(KEEPS.values()):
            table = Table(count, leavings)
            for row in mixed_grid(3, count + 1, salt) + [[N] * (count + 1), [N] * count + [I], [I] + [N] * count]:
                told = self.ask(thing_of, table, of_thing(table, row))
                self.assertEqual(shape(told), shape(row))

    def test_thing_of_risen_sums(self):
        table = table_of("two by two, shifted")
        total = [((0, 1), (-1, 1)), ((1, 0), I)]
        self.assertEqual(self.ask(thing_of, table, total), [N, (-2, 1), N, (4, 1)])
        for count, leavings in KEEPS.values():
            rows = {(i, j): row for i, j, row in leavings}
            for i, j in itertools.combinations(range(count), 2):
                told = self.ask(thing_of, Table(count, leavings), [((i, j), I), ((j, i), (-1, 1))])
                self.assertEqual(told, rows.get((i, j), [N] * (count + 1)))
        self.assertEqual(self.ask(thing_of, table, []), nums(0, 0, 0, 0))

    def test_none_where_a_longer_word_stands(self):
        table = table_of("two by two, shifted")
        for total in ([((1, 0), I)], [((), I), ((0,), I), ((1, 1), I)], [((2, 1, 0), I)], [((0, 1, 0, 1, 2), I)]):
            self.assertIsNone(self.ask(thing_of, table, total))
        self.assertIsNone(self.ask(thing_of, Table(1, []), [((0, 0), I)]))
        for salt, (count, leavings) in enumerate(KEEPS.values()):
            total = mixed_sum(count, 4, 3, salt)
            longer = any(len(word) > 1 for word, _ in rise_plain(leavings, total))
            self.assertEqual(thing_of(Table(count, leavings), total) is None, longer)

    def test_of_thing_refuses(self):
        for name in ("two by two", "thirds"):
            wrong_ones = [[], nums(1, 2, 3), nums(1, 2, 3, 4, 5), (I, I, I, I), *NO_LISTS]
            wrong_ones += [[I, I, I, one] for one in NO_NUMBERS] + [[one, I, I, I] for one in NO_NUMBERS]
            for wrong in wrong_ones:
                self.refused(of_thing, (table_of(name), wrong), NoRow, place=None)

    def test_thing_of_refuses(self):
        for wrong in wrong_terms(3):
            self.refused(thing_of, (table_of("two by two"), [wrong]), NoSum, place=0)
            self.refused(thing_of, (table_of("thirds"), [((), I), wrong]), NoSum, place=1)
        for name, (count, leavings) in BREAKS.items():
            for total in ([], [((0,), I)], [((1, 0), I)]):
                self.refused(thing_of, (table_of(name), total), Broken, at=first_break(count, leavings)[:3])


class Parted(Case):
    def check(self, count, leavings, total):
        told = self.ask(parted, Table(count, leavings), total)
        self.assertIs(told.__class__, list)
        for one in told:
            self.assertEqual([part.__class__ for part in (one, *one)], [tuple] * 4)
            self.assertTrue(is_plain_number(one[2]) and one[2] != N)
        high = rise_plain(leavings, total)
        self.assertEqual(shape(told), shape(parts_of(high)))
        # The sentence in brackets.
        single = all(len(word) == 1 for word, _ in high)
        self.assertEqual(single, all((left == ()) != (right == ()) for left, right, _ in told))
        return told

    def test_written_out(self):
        self.assertEqual(self.ask(parted, Table(2, []), []), [])
        self.assertEqual(self.ask(parted, Table(2, []), [((), (2, 3))]), [((), (), (2, 3))])
        self.assertEqual(self.ask(parted, Table(2, []), [((1,), I)]), [((), (1,), I), ((1,), (), I)])
        self.assertEqual(self.ask(parted, Table(2, []), [((0, 0), I)]), [
            ((), (0, 0), I), ((0,), (0,), (2, 1)), ((0, 0), (), I),
        ])
        self.assertEqual(self.ask(parted, table_of("turns and moves"), [((1, 0), I)]), [
            ((), (1,), (-1, 1)), ((), (0, 1), I), ((0,), (1,), I), ((1,), (), (-1, 1)), ((1,), (0,), I), ((0, 1), (), I),
        ])

    def test_every_rising_word(self):
        for name, (count, leavings) in BARE.items():
            for word in rising_words(count, 5 if count < 3 else 4 if count < 5 else 3):
                self.check(count, leavings, [(word, (-2, 3))])

    def test_sums(self):
        for salt, (count, leavings) in enumerate(BARE.values()):
            self.check(count, leavings, mixed_sum(count, 4, 8, salt))
            self.check(count, leavings, mixed_sum(count, 1, 4, salt + 9))
            self.check(count, leavings, mixed_sum(count, 5, 3, salt + 5))

    def test_alike_pairs_and_what_comes_to_nought(self):
        self.check(2, [], [((0, 0, 1), I), ((0, 1, 1), (-1, 1))])
        self.check(2, [], [((0, 1), I), ((1, 0), (-1, 1))])
        self.check(2, [], [((0, 0, 0, 0, 0), (1, 10)), ((0, 0, 0, 1, 1), I)])

    def test_single_ways_that_come_of_longer_words(self):
        self.assertEqual(self.check(*BARE["two by two"], [((1, 2), I), ((2, 1), (-1, 1))]), [
            ((), (0,), I), ((0,), (), I),
        ])

    def test_refused_as_risen_is_then_not_bare(self):
        self.assertFalse(is_bare(BREAKS["alone only"][1]))
        for wrong in wrong_terms(3):
            self.refused(parted, (table_of("two by two"), [wrong]), NoSum, place=0)
            self.refused(parted, (table_of("thirds"), [((), I), wrong]), NoSum, place=1)
            self.refused(parted, (table_of("two by two, shifted"), [wrong]), NoSum, place=0)
        for name, (count, leavings) in BREAKS.items():
            self.refused(parted, (table_of(name), []), Broken, at=first_break(count, leavings)[:3])
        for total in ([], [((), I)], [((1, 0), I)]):
            self.refused(parted, (table_of("two by two, shifted"), total), NotBare, pair=(0, 1))
            self.refused(parted, (table_of("place and push"), total), NotBare, pair=(0, 1))
            self.refused(parted, (table_of("two places, two pushes"), total), NotBare, pair=(0, 2))
        later = Table(3, [(0, 1, nums(0, 1, 0, 0)), (1, 2, nums(0, 0, 0, 0)), (0, 2, nums(0, 0, 0, -3))])
        self.assertIsNone(later.breaks())
        self.refused(parted, (later, []), NotBare, pair=(0, 2))
        last = Table(6, [(0, 1, nums(0, 1, 0, 0, 0, 0, 0)), (4, 5, nums(0, 0, 0, 0, 0, 0, 1)), (2, 4, nums(0, 0, 0, 0, 0, 0, 1))])
        self.refused(parted, (last, []), NotBare, pair=(2, 4))

    def test_mixed_tables_that_keep_the_rule(self):
        leavings = mixed_leavings(2, 12)
        bare = [(i, j, row[:-1] + [N]) for i, j, row in leavings]
        self.check(2, bare, mixed_sum(2, 5, 8, 6))


if __name__ == "__main__":
    unittest.main()
