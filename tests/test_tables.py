"""Table: its fields, left and breaks, held against the sums of points 9 and 10."""

import itertools
import unittest

from reckon import (
    BREAKS, I, KEEPS, N, Case, drawn, field_of, first_break, is_plain_row, left_row, mixed_grid, mixed_leavings, nums,
    shape, spoil, sum_rows, table_of, times_row, unit_rows,
)
from swaprest.tables import Table

ALL = {**KEEPS, **BREAKS}
TALL = 10 ** 999 + 7


class Fields(Case):
    def test_counts_one_to_six(self):
        for count in range(1, 7):
            table = Table(count, [])
            self.assertEqual(shape(table.count), ("int", count))
            self.assertEqual(shape(table.leavings), ("tuple",))
            for salt in range(3):
                leavings = mixed_leavings(count, salt)
                table = Table(count, leavings)
                self.assertEqual(table.count, count)
                self.assertEqual(shape(table.leavings), shape(field_of(leavings)))

    def test_written_out(self):
        table = Table(3, [(1, 2, nums(1, 0, 0, 4)), (0, 2, nums(0, 0, 0, 0)), (0, 1, [N, N, (-2, 3), N])])
        wanted = ((0, 1, (N, N, (-2, 3), N)), (1, 2, (I, N, N, (4, 1))))
        self.assertEqual(shape(table.leavings), shape(wanted))

    def test_rows_of_noughts_are_left_out(self):
        for count in range(2, 7):
            pairs = list(itertools.combinations(range(count), 2))
            self.assertEqual(Table(count, [(i, j, [N] * (count + 1)) for i, j in pairs]).leavings, ())
            for at in range(count + 1):
                row = [I if k == at else N for k in range(count + 1)]
                leavings = [(i, j, row if (i, j) == pairs[-1] else [N] * (count + 1)) for i, j in pairs]
                self.assertEqual(Table(count, leavings).leavings, ((*pairs[-1], tuple(row)),))

    def test_leavings_in_any_order(self):
        for order in itertools.permutations(KEEPS["two by two, shifted"][1]):
            self.assertEqual(Table(3, list(order)).leavings, table_of("two by two, shifted").leavings)
        for count in (4, 5, 6):
            leavings = [(i, j, [I] * (count + 1)) for i, j in itertools.combinations(range(count), 2)]
            for salt in range(5):
                mixed = [one for _, one in sorted(zip(drawn(salt, len(leavings), 10 ** 6), leavings))]
                self.assertEqual(Table(count, mixed).leavings, field_of(leavings))
            self.assertEqual(Table(count, leavings[::-1]).leavings, field_of(leavings))

    def test_what_is_handed_in_stays(self):
        for count, leavings in ALL.values():
            before = shape(leavings)
            table = Table(count, leavings)
            table.left([I] * (count + 1), [N] * (count + 1))
            table.breaks()
            self.assertEqual(shape(leavings), before)

    def test_lists_changed_behind_the_call(self):
        row, other = nums(0, 2, 0, 0), nums(0, 0, -2, 0)
        leavings = [(0, 1, row), (0, 2, other), (1, 2, nums(1, 0, 0, 0))]
        table = Table(3, leavings)
        field, units = table.leavings, unit_rows(4)
        row[1] = (7, 1)
        other.clear()
        leavings[2][2].append(I)
        leavings.pop()
        leavings.insert(0, (1, 2, nums(9, 9, 9, 9)))
        self.assertEqual(table.leavings, field)
        self.assertEqual(field, table_of("two by two").leavings)
        self.assertEqual(table.left(units[0], units[1]), nums(0, 2, 0, 0))
        self.assertEqual(table.left(units[2], units[0]), nums(0, 0, 2, 0))
        self.assertIsNone(table.breaks())
        leavings.clear()
        self.assertEqual(table.left(units[1], units[2]), nums(1, 0, 0, 0))

    def test_one_row_for_several(self):
        row = nums(0, 0, 1, 3)
        table = Table(3, [(0, 1, row), (1, 2, row), (0, 2, row)])
        self.assertEqual(table.leavings, field_of([(0, 1, row), (0, 2, row), (1, 2, row)]))

    def test_two_tables_of_one_list(self):
        leavings = [(0, 1, nums(0, 0, 1))]
        first = Table(2, leavings)
        leavings[0] = (0, 1, nums(0, 0, 5))
        second = Table(2, leavings)
        self.assertEqual(first.left(nums(1, 0, 0), nums(0, 1, 0)), nums(0, 0, 1))
        self.assertEqual(second.left(nums(1, 0, 0), nums(0, 1, 0)), nums(0, 0, 5))


class Left(Case):
    def test_of_units(self):
        for count, leavings in ALL.values():
            table, units = Table(count, leavings), unit_rows(count + 1)
            rows = {(i, j): row for i, j, row in leavings}
            for i, j in itertools.combinations(range(count), 2):
                wanted = rows.get((i, j), [N] * (count + 1))
                self.assertEqual(self.ask(table.left, units[i], units[j]), wanted)
                self.assertEqual(self.ask(table.left, units[j], units[i]), times_row((-1, 1), wanted))
            for unit in units:
                self.assertEqual(self.ask(table.left, unit, unit), [N] * (count + 1))
                self.assertEqual(self.ask(table.left, unit, units[-1]), [N] * (count + 1))
                self.assertEqual(self.ask(table.left, units[-1], unit), [N] * (count + 1))

    def test_of_any_things(self):
        samples = list(ALL.values()) + [(count, mixed_leavings(count, 31 + count)) for count in range(1, 7)]
        for salt, (count, leavings) in enumerate(samples):
            table = Table(count, leavings)
            one, other, third = mixed_grid(3, count + 1, salt)
            told = self.ask(table.left, one, other)
            self.assertTrue(is_plain_row(told, count + 1))
            self.assertEqual(told, left_row(count, leavings, one, other))
            self.assertEqual(self.ask(table.left, other, one), times_row((-1, 1), told))
            self.assertEqual(self.ask(table.left, one, one), [N] * (count + 1))
            both = sum_rows(other, times_row((2, 3), third))
            self.assertEqual(table.left(one, both), sum_rows(told, times_row((2, 3), table.left(one, third))))

    def test_numbers_alone_leave_nothing(self):
        table = table_of("two by two, shifted")
        one, other = nums(1, 2, 3, 0), nums(-1, 4, 2, 0)
        told = table.left(one, other)
        self.assertEqual(self.ask(table.left, one[:3] + [(9, 1)], other[:3] + [(-5, 2)]), told)

    def test_one_thing_handed_in_twice(self):
        thing = nums(3, -2, 5, 7)
        self.assertEqual(self.ask(table_of("thirds").left, thing, thing), nums(0, 0, 0, 0))

    def test_told_lists_are_new(self):
        table = table_of("two by two")
        units = unit_rows(4)
        told = table.left(units[1], units[2])
        spoil(told)
        self.assertEqual(table.left(units[1], units[2]), nums(1, 0, 0, 0))
        self.assertEqual(table.leavings, field_of(KEEPS["two by two"][1]))
        nothing = Table(3, []).left(units[0], units[1])
        spoil(nothing)
        self.assertEqual(Table(3, []).left(units[0], units[1]), nums(0, 0, 0, 0))

    def test_large_numbers(self):
        leavings = [(0, 1, [(TALL, 3), (1, TALL), (-TALL, 2)])]
        table = Table(2, leavings)
        one, other = [(TALL, 2), (5, 1), N], [(1, TALL), (TALL + 2, 3), I]
        told = self.ask(table.left, one, other)
        self.assertEqual(told, left_row(2, leavings, one, other))
        self.assertEqual(self.ask(table.left, told, one), left_row(2, leavings, told, one))


class Breaks(Case):
    def test_tables_that_keep_the_rule(self):
        for name in KEEPS:
            self.assertIsNone(self.ask(table_of(name).breaks), name)

    def test_tables_that_break_it(self):
        for name, (count, leavings) in BREAKS.items():
            told = self.ask(table_of(name).breaks)
            self.assertIsNotNone(told, name)
            self.assertEqual(shape(told), shape(first_break(count, leavings)), name)

    def test_written_out(self):
        self.assertEqual(table_of("alone only").breaks(), (0, 1, 2, nums(0, 0, 0, -14)))
        self.assertEqual(table_of("the last three").breaks(), (1, 2, 3, nums(0, 0, 0, 2, 0)))
        self.assertEqual(table_of("late").breaks(), (1, 4, 5, nums(0, -1, 0, 0, 0, 0, 0)))

    def test_up_to_two_ways_always_keep_it(self):
        for salt in range(10):
            self.assertIsNone(Table(1, []).breaks())
            self.assertIsNone(Table(2, mixed_leavings(2, salt)).breaks())

    def test_mixed_tables(self):
        for count in (3, 4, 5, 6):
            for salt in range(6):
                leavings = mixed_leavings(count, salt)
                self.assertEqual(self.ask(Table(count, leavings).breaks), first_break(count, leavings))

    def test_all_small_ones(self):
        found = {None: 0}
        ways = [nums(0, 0, 0, 0)] + unit_rows(4)
        for rows in itertools.product(ways, repeat=3):
            leavings = [(i, j, row) for (i, j), row in zip(((0, 1), (0, 2), (1, 2)), rows)]
            wanted = first_break(3, leavings)
            self.assertEqual(Table(3, leavings).breaks(), wanted)
            found[wanted and wanted[:3]] = found.get(wanted and wanted[:3], 0) + 1
        self.assertGreater(min(found.values()), 20)

    def test_each_three_ways_may_be_the_first(self):
        for i, j, k in itertools.combinations(range(6), 3):
            row = [(3, 1) if at == 6 else N for at in range(7)]
            leavings = [(i, j, unit_rows(7)[j]), (i, k, unit_rows(7)[k]), (j, k, row)]
            wanted = [N] * 6 + [(-6, 1)]
            self.assertEqual(Table(6, leavings).breaks(), (i, j, k, wanted))

    def test_large_numbers(self):
        leavings = [(0, 1, [N, (TALL, 7), N, N]), (0, 2, [N, N, (1, TALL), N]), (1, 2, nums(0, 0, 0, 1))]
        self.assertEqual(Table(3, leavings).breaks(), first_break(3, leavings))


if __name__ == "__main__":
    unittest.main()
