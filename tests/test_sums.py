"""swap_of, longest_of, power_of, turned_back, even_of, uneven_of: held against points 18 and 19."""

import itertools
import unittest
from fractions import Fraction
from math import factorial

from reckon import (
    BREAKS, I, KEEPS, N, Case, add_terms, first_break, is_bare, is_plain_sum, is_rising, joined_words, left_row,
    mixed_grid, mixed_sum, nums, rise_plain, rising_words, shape, sum_of, table_of, times_row, worth,
)
from swaprest.errors import Broken, NoCount, NoSum, NotBare, TooLong
from swaprest.sums import even_of, longest_of, power_of, swap_of, turned_back, uneven_of
from swaprest.tables import Table
from swaprest.words import of_thing, product, risen

BARE = {name: one for name, one in KEEPS.items() if is_bare(one[1])}
NO_COUNTS = (-1, 6, 7, 60, 10 ** 40, True, False, None, "", "1", [], [1], (), (1,), (1, 1), [[]])


def even_sum(leavings, word):
    """The even sum of a word, all orders of its places walked through."""
    found = {}
    for order in itertools.permutations(range(len(word))):
        other = tuple(word[place] for place in order)
        found[other] = found.get(other, 0) + Fraction(1, factorial(len(word)))
    return rise_plain(leavings, sum_of(found))


class Asked(Case):
    def is_sum(self, told, count):
        self.assertTrue(is_plain_sum(told, count))
        self.assertTrue(is_rising(told))
        return told


class Swap(Asked):
    def check(self, count, leavings, one, other):
        told = self.is_sum(self.ask(swap_of, Table(count, leavings), one, other), count)
        wanted = add_terms((1, joined_words(one, other)), (-1, joined_words(other, one)))
        self.assertEqual(shape(told), shape(rise_plain(leavings, sum_of(wanted))))
        return told

    def test_written_out(self):
        self.assertEqual(self.ask(swap_of, table_of("place and push"), [((0,), I)], [((1,), I)]), [((), I)])
        self.assertEqual(self.ask(swap_of, table_of("place and push"), [((1,), I)], [((0,), I)]), [((), (-1, 1))])
        self.assertEqual(self.ask(swap_of, table_of("two by two"), [((1, 1), I)], [((2,), (1, 2))]), [
            ((1,), (-1, 1)), ((0, 1), I),
        ])

    def test_products_less_one_another(self):
        for salt, (count, leavings) in enumerate(KEEPS.values()):
            for long in range(6):
                self.check(count, leavings, mixed_sum(count, long, 3, salt + 5), mixed_sum(count, 5 - long, 3, salt + 17))

    def test_against_product(self):
        for salt, (count, leavings) in enumerate(KEEPS.values()):
            table = Table(count, leavings)
            one, other = mixed_sum(count, 2, 5, salt), mixed_sum(count, 3, 5, salt + 11)
            wanted = add_terms((1, product(table, one, other)), (-1, product(table, other, one)))
            self.assertEqual(swap_of(table, one, other), sum_of(wanted))
            back = sum_of(add_terms((-1, swap_of(table, one, other))))
            self.assertEqual(swap_of(table, other, one), back)

    def test_of_things_it_is_what_is_left(self):
        for salt, (count, leavings) in enumerate(KEEPS.values()):
            table = Table(count, leavings)
            one, other = mixed_grid(2, count + 1, salt + 2)
            told = self.ask(swap_of, table, of_thing(table, one), of_thing(table, other))
            self.assertEqual(told, of_thing(table, left_row(count, leavings, one, other)))

    def test_with_itself_and_with_nothing(self):
        for salt, (count, leavings) in enumerate(KEEPS.values()):
            table, total = Table(count, leavings), mixed_sum(count, 2, 6, salt + 3)
            self.assertEqual(self.ask(swap_of, table, total, total), [])
            self.assertEqual(self.ask(swap_of, table, total, []), [])
            self.assertEqual(self.ask(swap_of, table, [], total), [])
            self.assertEqual(self.ask(swap_of, table, [((), (7, 2))], total), [])

    def test_refused_as_product_is(self):
        for one, other in itertools.product(range(6), repeat=2):
            for name in ("two by two", "in a ring"):
                handed = (table_of(name), [((0,) * one, I)], [((1,) * other, I)])
                if one + other > 5:
                    self.refused(swap_of, handed, TooLong)
                elif name in BREAKS:
                    self.refused(swap_of, handed, Broken, at=(0, 1, 2))
        for name, (count, leavings) in BREAKS.items():
            self.refused(swap_of, (table_of(name), [], []), Broken, at=first_break(count, leavings)[:3])
        self.assertEqual(self.ask(swap_of, table_of("round"), [((0,) * 5, I)], []), [])
        table, long = table_of("round"), [((0,) * 3, I)]
        self.refused(swap_of, (table, long + [None], long), NoSum, place=1)
        self.refused(swap_of, (table, long, long + [None]), NoSum, place=1)
        self.refused(swap_of, (table, [((), I), ((0,), I), None], [None]), NoSum, place=2)


class Longest(Asked):
    def test_written_out(self):
        self.assertEqual(self.ask(longest_of, table_of("round"), []), [])
        self.assertEqual(self.ask(longest_of, table_of("round"), [((), (2, 3))]), [((), (2, 3))])
        self.assertEqual(self.ask(longest_of, table_of("two by two"), [((0,), I), ((2, 1), I)]), [((1, 2), I)])
        total = [((0, 1), (-1, 1)), ((1, 0), I)]
        self.assertEqual(self.ask(longest_of, table_of("two by two, shifted"), total), [((1,), (-2, 1))])
        self.assertEqual(self.ask(longest_of, table_of("place and push"), total), [((), (-1, 1))])
        self.assertEqual(self.ask(longest_of, Table(2, []), total), [])

    def test_terms_of_the_risen_sum(self):
        for salt, (count, leavings) in enumerate(KEEPS.values()):
            for long in range(6):
                total = mixed_sum(count, long, 5, salt + long)
                told = self.is_sum(self.ask(longest_of, Table(count, leavings), total), count)
                high = rise_plain(leavings, total)
                most = max((len(word) for word, _ in high), default=0)
                self.assertEqual(told, [term for term in high if len(term[0]) == most])

    def test_refused(self):
        for name, (count, leavings) in BREAKS.items():
            for total in ([], [((1, 0), I)]):
                self.refused(longest_of, (table_of(name), total), Broken, at=first_break(count, leavings)[:3])


class Power(Asked):
    def test_written_out(self):
        for total in ([], [((), (3, 1))], [((1, 0), I)], mixed_sum(2, 5, 6, 2)):
            self.assertEqual(self.ask(power_of, table_of("place and push"), total, 0), [((), I)])
        self.assertEqual(self.ask(power_of, table_of("place and push"), [((1, 0), I)], 1), [((), (-1, 1)), ((0, 1), I)])
        self.assertEqual(self.ask(power_of, table_of("place and push"), [((0,), I), ((1,), I)], 2), [
            ((), (-1, 1)), ((0, 0), I), ((0, 1), (2, 1)), ((1, 1), I),
        ])
        self.assertEqual(self.ask(power_of, Table(1, []), [((0,), (2, 3))], 5), [((0,) * 5, (32, 243))])
        for many in range(1, 6):
            self.assertEqual(self.ask(power_of, Table(1, []), [], many), [])
            self.assertEqual(self.ask(power_of, Table(1, []), [((), (-2, 1))], many), [((), ((-2) ** many, 1))])

    def test_products_of_so_many(self):
        for salt, (count, leavings) in enumerate(KEEPS.values()):
            for many in range(1, 6):
                total = mixed_sum(count, 5 // many, 2 if many > 3 else 3, salt + many)
                told = self.is_sum(self.ask(power_of, Table(count, leavings), total, many), count)
                wanted = [((), I)]
                for _ in range(many):
                    wanted = rise_plain(leavings, joined_words(wanted, total))
                self.assertEqual(shape(told), shape(wanted))

    def test_no_count(self):
        for wrong in NO_COUNTS:
            for name in ("two by two", "in a ring"):
                for total in ([], [((0,), I)], [((0,) * 5, I)]):
                    self.refused(power_of, (table_of(name), total, wrong), NoCount)
        self.refused(power_of, (table_of("in a ring"), [None], None), NoSum, place=0)

    def test_too_long(self):
        for long, many in itertools.product(range(6), repeat=2):
            for name in ("two by two", "in a ring"):
                handed = (table_of(name), [((), I), ((0,) * long, I)][long == 0:], many)
                if long * many > 5:
                    self.refused(power_of, handed, TooLong)
                elif name in BREAKS:
                    self.refused(power_of, handed, Broken, at=(0, 1, 2))
                else:
                    self.is_sum(self.ask(power_of, *handed), 3)

    def test_words_that_would_go_out_count(self):
        self.refused(power_of, (Table(2, []), [((0, 0, 1), I), ((0, 1, 0), (-1, 1))], 2), TooLong)

    def test_broken_for_nought_too(self):
        for name, (count, leavings) in BREAKS.items():
            for many in range(6):
                self.refused(power_of, (table_of(name), [((0,), I)], many), Broken, at=first_break(count, leavings)[:3])
                self.refused(power_of, (table_of(name), [], many), Broken, at=first_break(count, leavings)[:3])


class TurnedBack(Asked):
    def check(self, count, leavings, total):
        told = self.is_sum(self.ask(turned_back, Table(count, leavings), total), count)
        back = {word[::-1]: (-1) ** len(word) * worth(one) for word, one in total}
        self.assertEqual(shape(told), shape(rise_plain(leavings, sum_of(back))))
        return told

    def test_written_out(self):
        self.assertEqual(self.ask(turned_back, table_of("turns and moves"), [((0, 1), I)]), [((1,), (-1, 1)), ((0, 1), I)])
        self.assertEqual(self.ask(turned_back, Table(2, []), [((), (3, 1)), ((0,), I), ((0, 1), I), ((0, 0, 1), I)]), [
            ((), (3, 1)), ((0,), (-1, 1)), ((0, 1), I), ((0, 0, 1), (-1, 1)),
        ])
        self.assertEqual(self.ask(turned_back, Table(2, []), []), [])

    def test_words_turned_about(self):
        for salt, (count, leavings) in enumerate(BARE.values()):
            for long in range(6):
                self.check(count, leavings, mixed_sum(count, long, 4, salt + long))

    def test_twice_and_of_products(self):
        for salt, (count, leavings) in enumerate(BARE.values()):
            table = Table(count, leavings)
            one, other = mixed_sum(count, 2, 4, salt), mixed_sum(count, 3, 4, salt + 19)
            self.assertEqual(turned_back(table, turned_back(table, other)), risen(table, other))
            both = product(table, turned_back(table, other), turned_back(table, one))
            self.assertEqual(turned_back(table, product(table, one, other)), both)

    def test_refused_as_parted_is(self):
        for name, (count, leavings) in BREAKS.items():
            self.refused(turned_back, (table_of(name), []), Broken, at=first_break(count, leavings)[:3])
        self.assertFalse(is_bare(BREAKS["alone only"][1]))
        for total in ([], [((), I)], [((1, 0), I)]):
            self.refused(turned_back, (table_of("two by two, shifted"), total), NotBare, pair=(0, 1))
            self.refused(turned_back, (table_of("two places, two pushes"), total), NotBare, pair=(0, 2))
        later = Table(3, [(0, 1, nums(0, 1, 0, 0)), (0, 2, nums(0, 0, 0, -3))])
        self.refused(turned_back, (later, []), NotBare, pair=(0, 2))
        self.refused(turned_back, (later, [None]), NoSum, place=0)


class Even(Asked):
    def check(self, count, leavings, total):
        told = self.is_sum(self.ask(even_of, Table(count, leavings), total), count)
        high = rise_plain(leavings, total)
        wanted = add_terms(*[(worth(one), even_sum(leavings, word)) for word, one in high])
        self.assertEqual(shape(told), shape(sum_of(wanted)))
        return told

    def test_written_out(self):
        self.assertEqual(self.ask(even_of, table_of("place and push"), [((0, 1), I)]), [((), (-1, 2)), ((0, 1), I)])
        self.assertEqual(self.ask(even_of, table_of("turns and moves"), [((0, 1), I)]), [((1,), (-1, 2)), ((0, 1), I)])
        self.assertEqual(self.ask(even_of, table_of("place and push"), [((1, 0), I)]), [((), (-3, 2)), ((0, 1), I)])
        self.assertEqual(self.ask(even_of, table_of("place and push"), [((0, 0, 1), I)]), [((0,), (-1, 1)), ((0, 0, 1), I)])
        self.assertEqual(self.ask(even_of, table_of("place and push"), []), [])

    def test_short_words_stay(self):
        for count, leavings in KEEPS.values():
            total = [((), (2, 3)), ((0,), (-1, 1)), ((0,) * 4, I), ((count - 1,) * 5, I)]
            self.assertEqual(self.ask(even_of, Table(count, leavings), total), total)

    def test_every_rising_word(self):
        for name in ("third and alone", "two by two, shifted", "round", "two by two"):
            count, leavings = KEEPS[name]
            for word in rising_words(count, 3):
                self.check(count, leavings, [(word, (3, 2))])
            for word in rising_words(count, 5)[-20::4]:
                self.check(count, leavings, [(word, I)])

    def test_sums(self):
        for salt, (count, leavings) in enumerate(KEEPS.values()):
            self.check(count, leavings, mixed_sum(count, 4, 4, salt))
            self.check(count, leavings, mixed_sum(count, 3, 6, salt + 8))

    def test_powers_of_things_are_even(self):
        # The even sum of a thing taken many times, told by rising words, has the numbers that plain words have.
        for salt, (count, leavings) in enumerate(KEEPS.values()):
            table, free = Table(count, leavings), Table(count, [])
            total = of_thing(table, times_row((1, 2), mixed_grid(1, count, salt + 4)[0]) + [N])
            for many in range(6):
                self.assertEqual(even_of(table, power_of(free, total, many)), power_of(table, total, many))


class Uneven(Asked):
    def test_written_out(self):
        self.assertEqual(self.ask(uneven_of, table_of("place and push"), [((0, 1), I)]), [((), (1, 2)), ((0, 1), I)])
        self.assertEqual(self.ask(uneven_of, table_of("turns and moves"), [((0, 1), I)]), [((1,), (1, 2)), ((0, 1), I)])
        self.assertEqual(self.ask(uneven_of, table_of("place and push"), [((1, 0), I)]), [((), (-1, 2)), ((0, 1), I)])
        self.assertEqual(self.ask(uneven_of, table_of("place and push"), []), [])
        self.assertEqual(self.ask(uneven_of, Table(1, []), [((), I), ((0,) * 5, I)]), [((), I), ((0,) * 5, I)])

    def test_each_undoes_the_other(self):
        for salt, (count, leavings) in enumerate(KEEPS.values()):
            table = Table(count, leavings)
            for long in range(6):
                total = mixed_sum(count, long, 5, salt + 3 * long)
                high = risen(table, total)
                told = self.is_sum(self.ask(uneven_of, table, total), count)
                self.assertEqual(even_of(table, told), high)
                self.assertEqual(uneven_of(table, even_of(table, total)), high)

    def test_every_rising_word(self):
        for name in ("two by two, shifted", "third and alone", "all of two by two"):
            count, leavings = KEEPS[name]
            for word in rising_words(count, 3) + rising_words(count, 5)[-20::4]:
                self.assertEqual(uneven_of(table_of(name), even_sum(leavings, word)), [(word, I)])

    def test_both_refused_as_risen_is(self):
        for name, (count, leavings) in BREAKS.items():
            for total in ([], [((0,), I)], [((1, 0), I)]):
                self.refused(even_of, (table_of(name), total), Broken, at=first_break(count, leavings)[:3])
                self.refused(uneven_of, (table_of(name), total), Broken, at=first_break(count, leavings)[:3])
        self.refused(even_of, (table_of("thirds"), [((0,), I), ((0,), I)]), NoSum, place=1)
        self.refused(uneven_of, (table_of("thirds"), [((0,), I), ((0,), I)]), NoSum, place=1)

    def test_large_numbers(self):
        tall = 10 ** 999 + 7
        table = Table(2, [(0, 1, [(tall, 3), (1, tall), (-5, 7)])])
        told = self.ask(uneven_of, table, [((1, 0), (tall, 2)), ((1, 1, 0), I)])
        self.assertEqual(even_of(table, told), risen(table, [((1, 0), (tall, 2)), ((1, 1, 0), I)]))


if __name__ == "__main__":
    unittest.main()
