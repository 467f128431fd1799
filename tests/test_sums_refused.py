"""What is no sum is refused by every function that is handed one, by the first place at which it is none."""

import unittest

from reckon import GOOD, I, N, NO_NUMBERS, Case, mixed_sum, out_of_order, table_of, wrong_terms
from swaprest.errors import NoSum
from swaprest.passing import passes, passing
from swaprest.sums import even_of, longest_of, power_of, swap_of, turned_back, uneven_of
from swaprest.words import parted, product, risen, steps_up, thing_of, walked

LONG = [((0, 0, 0, 0, 0), I)]

# Each with what is handed in beside the sum, wrong or too long where that must not go first.
ASKS = {
    "walked": lambda table, total: walked(table, total, [None]),
    "steps_up": steps_up,
    "risen": risen,
    "product, first": lambda table, total: product(table, total, [None]),
    "product, second": lambda table, total: product(table, LONG, total),
    "thing_of": thing_of,
    "parted": parted,
    "swap_of, first": lambda table, total: swap_of(table, total, [None]),
    "swap_of, second": lambda table, total: swap_of(table, LONG, total),
    "longest_of": longest_of,
    "power_of": lambda table, total: power_of(table, total, None),
    "turned_back": turned_back,
    "even_of": even_of,
    "uneven_of": uneven_of,
    "passes, first": lambda table, total: passes(table, total, [None]),
    "passes, second": lambda table, total: passes(table, LONG, total),
    "passing, alone": lambda table, total: passing(table, [total], 0),
    "passing, first": lambda table, total: passing(table, [total, LONG, [None]], 3),
    "passing, last": lambda table, total: passing(table, [[], LONG, LONG, total], 3),
}
# One keeps the rule, one breaks it, one isn't bare: what is no sum goes ahead of all that.
TABLES = [table_of(name) for name in ("two by two", "thirds", "two by two, shifted")]


class NoSums(Case):
    def test_terms_that_are_none(self):
        for name, told_by in ASKS.items():
            for table in TABLES:
                for wrong in wrong_terms(3):
                    self.refused(told_by, (table, [wrong]), NoSum, place=0)

    def test_at_each_place(self):
        picked = [((0, 1), N), ((0, 2), (2, 4)), ((0, 0, 0, 0, 0, 0), I), ((0, 3), I), ((0, -1), I), ((0, True), I), None, []]
        for told_by in ASKS.values():
            for wrong in picked:
                for place in range(len(GOOD) + 1):
                    self.refused(told_by, (TABLES[0], GOOD[:place] + [wrong] + GOOD[place:]), NoSum, place=place)
                    self.refused(told_by, (TABLES[1], GOOD[:place] + [wrong, wrong]), NoSum, place=place)

    def test_numbers_that_are_none_at_each_place(self):
        for told_by in ASKS.values():
            for wrong in (N, *NO_NUMBERS):
                for place in (0, 3, 5):
                    total = list(GOOD)
                    total[place] = (GOOD[place][0], wrong)
                    self.refused(told_by, (TABLES[0], total), NoSum, place=place)

    def test_order(self):
        for told_by in ASKS.values():
            for table in TABLES:
                for total, place in out_of_order():
                    self.refused(told_by, (table, total), NoSum, place=place)

    def test_the_first_of_two_faults(self):
        for told_by in ASKS.values():
            self.refused(told_by, (TABLES[0], [((1,), I), ((0,), I), None]), NoSum, place=1)
            self.refused(told_by, (TABLES[0], [((1,), I), None, ((0,), I)]), NoSum, place=1)
            self.refused(told_by, (TABLES[0], [((1,), N), ((0,), I)]), NoSum, place=0)

    def test_ways_hang_on_the_table(self):
        for name, count in (("one way", 1), ("place and push", 2), ("round", 3), ("nothing left of six", 6)):
            table = table_of(name)
            for told_by in ASKS.values():
                self.refused(told_by, (table, [((), I), ((0, count), I)]), NoSum, place=1)
                self.refused(told_by, (table, [((count,), I)]), NoSum, place=0)
            self.assertEqual(risen(table, [((count - 1,), I)]), [((count - 1,), I)])

    def test_right_ones_are_not_refused(self):
        table = TABLES[0]
        for total in ([], [((), I)], GOOD, mixed_sum(3, 5, 10, 1)):
            self.assertEqual(walked(table, total, []), total)
            for told_by in (steps_up, risen, thing_of, parted, longest_of, turned_back, even_of, uneven_of):
                told_by(table, total)
            power_of(table, total, 1)
            product(table, [], total)
            swap_of(table, total, [((), I)])
            self.assertTrue(passes(table, total, [((), I)]))
            self.assertEqual(passing(table, [total], 0), [[((), I)]])


if __name__ == "__main__":
    unittest.main()
