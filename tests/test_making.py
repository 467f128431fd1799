"""beside, turned, loose: held against the words of point 11, and what they refuse."""

import itertools
import unittest

from reckon import (
    BREAKS, I, KEEPS, N, NO_LISTS, NO_NUMBERS, Case, field_of, left_row, mixed_grid, mixed_leavings, nums, rank, shape,
    sum_rows, table_of, times_row, unit_rows,
)
from swaprest.errors import NoCount, NoRow, NotFree
from swaprest.making import beside, loose, turned
from swaprest.tables import Table

ALL = {**KEEPS, **BREAKS}


def put_in(rows, thing):
    """The thing that weights of things and a number alone tell."""
    alone = [N] * (len(rows[0]) - 1) + [thing[-1]]
    return sum_rows(alone, *[times_row(weight, row) for weight, row in zip(thing[:-1], rows)])


class Beside(Case):
    def test_written_out(self):
        told = self.ask(beside, Table(2, [(0, 1, nums(3, 4, 5))]), Table(2, [(0, 1, nums(6, 7, 8))]))
        self.assertEqual(told.count, 4)
        self.assertEqual(told.leavings, field_of([(0, 1, nums(3, 4, 0, 0, 5)), (2, 3, nums(0, 0, 6, 7, 8))]))
        told = self.ask(beside, Table(1, []), table_of("place and push"))
        self.assertEqual((told.count, told.leavings), (3, field_of([(1, 2, nums(0, 0, 0, 1))])))
        told = self.ask(beside, table_of("place and push"), Table(1, []))
        self.assertEqual((told.count, told.leavings), (3, field_of([(0, 1, nums(0, 0, 0, 1))])))

    def test_up_to_six_ways(self):
        for first in range(1, 6):
            for second in range(1, 7 - first):
                one, other = mixed_leavings(first, first), mixed_leavings(second, second + 10)
                told = self.ask(beside, Table(first, one), Table(second, other))
                self.assertEqual(told.__class__, Table)
                wanted = [(i, j, row[:first] + [N] * second + row[first:]) for i, j, row in one]
                wanted += [(i + first, j + first, [N] * first + row) for i, j, row in other]
                self.assertEqual(shape(told.count), shape(first + second))
                self.assertEqual(shape(told.leavings), shape(field_of(wanted)))

    def test_nothing_is_left_between_both(self):
        told = beside(table_of("two by two"), table_of("round"))
        units = unit_rows(7)
        for i, j in itertools.product(range(3), range(3, 6)):
            self.assertEqual(told.left(units[i], units[j]), [N] * 7)
            self.assertEqual(told.left(units[j], units[i]), [N] * 7)
        self.assertIsNone(told.breaks())

    def test_a_table_beside_itself(self):
        table = table_of("third and alone")
        self.assertEqual(self.ask(beside, table, table).leavings, field_of(
            [(0, 1, [(1, 2), (-3, 1), N, N, (5, 7)]), (2, 3, [N, N, (1, 2), (-3, 1), (5, 7)])]
        ))

    def test_the_rule_is_kept_just_where_both_keep_it(self):
        small = [name for name in ALL if ALL[name][0] <= 3]
        for one, other in itertools.product(small, repeat=2):
            told = beside(table_of(one), table_of(other)).breaks()
            self.assertEqual(told is None, one in KEEPS and other in KEEPS)
        first = beside(table_of("alone only"), table_of("in a ring"))
        self.assertEqual(first.breaks(), (0, 1, 2, nums(0, 0, 0, 0, 0, 0, -14)))
        second = beside(table_of("round"), table_of("alone only"))
        self.assertEqual(second.breaks(), (3, 4, 5, nums(0, 0, 0, 0, 0, 0, -14)))

    def test_more_than_six(self):
        for first in range(1, 7):
            for second in range(7 - first, 7):
                self.refused(beside, (Table(first, mixed_leavings(first, 1)), Table(second, [])), NoCount)
        self.refused(beside, (Table(6, []), Table(1, [])), NoCount)
        self.refused(beside, (Table(1, []), Table(6, [])), NoCount)
        self.refused(beside, (Table(6, []), Table(6, [])), NoCount)


class Turned(Case):
    def check(self, count, leavings, rows):
        """What is left of two of the things is told by the new table: put in, it is the old one's."""
        told = self.ask(turned, Table(count, leavings), rows)
        self.assertEqual(told.__class__, Table)
        self.assertEqual(told.count, count)
        units = unit_rows(count + 1)
        for i, j in itertools.combinations(range(count), 2):
            new = told.left(units[i], units[j])
            self.assertEqual(put_in(rows, new), left_row(count, leavings, rows[i], rows[j]))
        return told

    def test_to_the_units_themselves(self):
        for count, leavings in ALL.values():
            told = self.ask(turned, Table(count, leavings), unit_rows(count + 1)[:count])
            self.assertEqual((told.count, told.leavings), (count, field_of(leavings)))

    def test_to_units_in_another_order(self):
        told = self.ask(turned, table_of("two by two"), [unit_rows(4)[k] for k in (1, 2, 0)])
        wanted = [(0, 1, nums(0, 0, 1, 0)), (0, 2, nums(-2, 0, 0, 0)), (1, 2, nums(0, 2, 0, 0))]
        self.assertEqual(told.leavings, field_of(wanted))
        for name in ("two by two, shifted", "thirds", "in a ring"):
            for order in itertools.permutations(range(3)):
                self.check(*ALL[name], [unit_rows(4)[k] for k in order])
        for count, leavings in ALL.values():
            self.check(count, leavings, unit_rows(count + 1)[:count][::-1])

    def test_to_sums_of_units(self):
        told = self.ask(turned, table_of("place and push"), [nums(1, 1, 0), nums(1, -1, 0)])
        self.assertEqual(told.leavings, ((0, 1, (N, N, (-2, 1))),))
        for salt, (count, leavings) in enumerate(ALL.values()):
            rows = [row + [N] for row in mixed_grid(count, count, salt + 5)]
            self.assertEqual(rank(rows), count)
            self.check(count, leavings, rows)

    def test_with_numbers_alone(self):
        told = self.ask(turned, table_of("turns and moves"), [nums(1, 0, 3), nums(0, 1, 5)])
        self.assertEqual(told.leavings, ((0, 1, (N, I, (-5, 1))),))
        for salt, (count, leavings) in enumerate(ALL.values()):
            self.check(count, leavings, mixed_grid(count, count + 1, salt + 6))
            mixed = mixed_leavings(count, salt)
            self.check(count, mixed, mixed_grid(count, count + 1, salt + 60))

    def test_the_rule_goes_with_it(self):
        for salt, name in enumerate(ALL):
            count = ALL[name][0]
            told = turned(table_of(name), mixed_grid(count, count + 1, salt + 6))
            self.assertEqual(told.breaks() is None, name in KEEPS)

    def test_there_and_back(self):
        table = table_of("two by two, shifted")
        there = turned(table, [nums(1, 1, 0, 2), nums(0, 1, 0, 0), nums(0, 0, 1, -1)])
        back = turned(there, [nums(1, -1, 0, -2), nums(0, 1, 0, 0), nums(0, 0, 1, 1)])
        self.assertEqual(back.leavings, table.leavings)

    def test_lists_changed_behind_the_call(self):
        rows = [nums(1, 1, 0), nums(1, -1, 0)]
        told = turned(table_of("place and push"), rows)
        rows[0][0] = (9, 1)
        rows.clear()
        self.assertEqual(told.leavings, ((0, 1, (N, N, (-2, 1))),))


class TurnedRefusals(Case):
    def test_another_number_of_things(self):
        for count in range(1, 7):
            table = Table(count, mixed_leavings(count, 2))
            for many in range(9):
                if many != count:
                    self.refused(turned, (table, [[I] * (count + 1)] * many), NoRow, place=None)
                    self.refused(turned, (table, [None] * many), NoRow, place=None)

    def test_the_first_that_is_no_thing(self):
        table = table_of("two by two")
        wrong_ones = [[], nums(1, 2, 3), nums(1, 2, 3, 4, 5), [N] * 60, *NO_LISTS]
        wrong_ones += [[I, N, one, N] for one in NO_NUMBERS] + [[I, N, N, one] for one in NO_NUMBERS]
        for wrong in wrong_ones:
            for place in range(3):
                rows = unit_rows(4)[:3]
                rows[place] = wrong
                self.refused(turned, (table, rows), NoRow, place=place)
                # A thing that is none goes ahead of things that aren't free.
                rows = [nums(0, 0, 0, 1) for _ in range(3)]
                rows[place] = wrong
                self.refused(turned, (table, rows), NoRow, place=place)
            self.refused(turned, (table, [nums(1, 0, 0, 0), wrong, wrong]), NoRow, place=1)

    def test_things_that_are_not_free(self):
        units = unit_rows(4)
        for rows, place in (
            ([nums(0, 0, 0, 0), units[0], units[1]], 0),
            ([nums(0, 0, 0, 5), units[0], units[1]], 0),
            ([nums(0, 0, 0, 5), nums(0, 0, 0, 5), nums(0, 0, 0, 0)], 0),
            ([units[0], nums(0, 0, 0, 1), units[1]], 1),
            ([units[0], units[0], units[0]], 1),
            ([units[0], nums(2, 0, 0, 7), units[1]], 1),
            ([units[0], units[1], nums(3, -2, 0, 7)], 2),
            ([units[0], units[1], nums(0, 0, 0, 1)], 2),
            ([nums(1, 2, 3, 0), nums(4, 5, 6, 0), nums(7, 8, 9, 0)], 2),
            ([nums(1, 2, 3, 0), nums(2, 4, 6, 1), nums(0, 0, 0, 0)], 1),
        ):
            for name in ("two by two", "thirds"):
                self.refused(turned, (table_of(name), rows), NotFree, place=place)
        self.refused(turned, (Table(1, []), [nums(0, 1)]), NotFree, place=0)
        self.refused(turned, (Table(1, []), [nums(0, 0)]), NotFree, place=0)
        for count in range(2, 7):
            rows = mixed_grid(count, count + 1, count + 30)
            for place in range(1, count):
                ahead = [times_row((k + 1, 2), row) for k, row in enumerate(rows[:place])]
                wrong = sum_rows(*ahead, [N] * count + [(3, 1)])
                handed = rows[:place] + [wrong] + rows[place + 1:]
                self.refused(turned, (Table(count, []), handed), NotFree, place=place)

    def test_a_sum_of_later_ones_is_told_by_the_last(self):
        rows = [nums(1, 1, 0, 0), nums(1, 0, 0, 0), nums(0, 1, 0, 0)]
        self.refused(turned, (table_of("round"), rows), NotFree, place=2)


class Loose(Case):
    def test_depth_one(self):
        for letters in range(1, 7):
            told = self.ask(loose, letters, 1)
            self.assertEqual(told.__class__, Table)
            self.assertEqual(shape((told.count, told.leavings)), shape((letters, ())))

    def test_deeper_ones(self):
        two = self.ask(loose, 2, 2)
        self.assertEqual((two.count, two.leavings), (3, ((0, 1, tuple(nums(0, 0, 1, 0))),)))
        three = self.ask(loose, 2, 3)
        self.assertEqual((three.count, three.leavings), (5, (
            (0, 1, tuple(nums(0, 0, 1, 0, 0, 0))),
            (0, 2, tuple(nums(0, 0, 0, 1, 0, 0))),
            (1, 2, tuple(nums(0, 0, 0, 0, 1, 0))),
        )))
        six = self.ask(loose, 3, 2)
        self.assertEqual((six.count, six.leavings), (6, (
            (0, 1, tuple(nums(0, 0, 0, 1, 0, 0, 0))),
            (0, 2, tuple(nums(0, 0, 0, 0, 1, 0, 0))),
            (1, 2, tuple(nums(0, 0, 0, 0, 0, 1, 0))),
        )))

    def test_they_are_bare_keep_the_rule_and_leave_nothing_deeper(self):
        for letters, depth in [(k, 1) for k in range(1, 7)] + [(2, 2), (2, 3), (3, 2)]:
            table = loose(letters, depth)
            self.assertIsNone(table.breaks())
            self.assertTrue(all(row[-1] == N for _, _, row in table.leavings))
            reached = units = unit_rows(table.count + 1)[:table.count]
            ranks = []
            for _ in range(depth):
                reached = [table.left(unit, other) for unit in units for other in reached]
                ranks.append(rank(reached))
            self.assertEqual(ranks[-1], 0)
            self.assertTrue(all(ranks[:-1]))
            self.assertEqual(table.count - ranks[0], letters)

    def test_other_pairs(self):
        right = {(k, 1) for k in range(1, 7)} | {(2, 2), (2, 3), (3, 2)}
        for pair in itertools.product(range(-2, 10), repeat=2):
            if pair not in right:
                self.refused(loose, pair, NoCount)
        for wrong in (True, False, None, "", "2", [], [2], (), (2, 1), [[]], 10 ** 40, -10 ** 40):
            for right_one in (1, 2, 3):
                self.refused(loose, (wrong, right_one), NoCount)
                self.refused(loose, (right_one, wrong), NoCount)
            self.refused(loose, (wrong, wrong), NoCount)

    def test_a_told_table_is_a_new_one(self):
        self.assertIsNot(loose(2, 2), loose(2, 2))


if __name__ == "__main__":
    unittest.main()
