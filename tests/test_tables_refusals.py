"""What Table and left refuse: the class, its field, and which of several goes first."""

import itertools
import unittest

from reckon import BREAKS, I, KEEPS, N, NO_LISTS, NO_NUMBERS, Case, nums, table_of, unit_rows
from swaprest.errors import NoCount, NoPair, NoRow
from swaprest.tables import Table

NO_COUNTS = (
    0, 7, -1, 60, 10 ** 40, -10 ** 40, True, False, None, "", "1", "3", [], [3], [1, 2], (), (1,), (1, 1), (3, 1), [[]],
)
NO_WAYS = (3, 4, -1, 60, True, False, None, "", "0", "1", [], [0], (), (0,), (0, 1), (1, 1), 10 ** 30)
GOOD = ((0, 1, nums(0, 2, 0, 0)), (0, 2, nums(0, 0, -2, 0)), (1, 2, nums(1, 0, 0, 0)))


def wrong_things(width):
    """What is no thing of this width."""
    found = [[], [I] * (width - 1), [I] * (width + 1), [N] * 60, [[I] * width], *NO_LISTS, (N,) * width]
    for at in range(width):
        for wrong in NO_NUMBERS:
            found.append([I] * at + [wrong] + [N] * (width - at - 1))
    return found


class Counts(Case):
    def test_no_count(self):
        for wrong in NO_COUNTS:
            self.refused(Table, (wrong, []), NoCount)
            self.refused(Table, (wrong, list(GOOD)), NoCount)

    def test_a_count_goes_ahead_of_a_tuple(self):
        for wrong in NO_COUNTS:
            self.refused(Table, (wrong, [(0, 0, None)]), NoCount)
            self.refused(Table, (wrong, [(0, 1, None)]), NoCount)


class Tuples(Case):
    def test_what_are_no_two_ways(self):
        row = nums(0, 1, 2, 3)
        wrong = [(k, k) for k in range(3)] + [(1, 0), (2, 0), (2, 1), (3, 4), (-2, -1), (-1, 0), (4, 3)]
        wrong += [(0, one) for one in NO_WAYS] + [(one, 2) for one in NO_WAYS] + [(one, one) for one in NO_WAYS]
        for i, j in wrong:
            self.refused(Table, (3, [(i, j, row)]), NoPair, place=0)
            self.refused(Table, (3, [GOOD[0], (i, j, row)]), NoPair, place=1)
            self.refused(Table, (3, [GOOD[2], GOOD[0], (i, j, row), GOOD[1]]), NoPair, place=2)

    def test_what_is_no_tuple_of_three(self):
        for wrong in (None, 3, True, "abc", (), (0, 1), [0, 1, nums(0, 0, 0, 1)], (0, 1, nums(0, 0, 0, 1), 0)):
            self.refused(Table, (3, [GOOD[2], wrong]), NoPair, place=1)

    def test_ways_hang_on_the_count(self):
        for count in range(1, 7):
            row = [I] * (count + 1)
            for i, j in itertools.product(range(-1, 8), repeat=2):
                if 0 <= i < j < count:
                    self.assertEqual(Table(count, [(i, j, row)]).leavings, ((i, j, tuple(row)),))
                else:
                    self.refused(Table, (count, [(i, j, row)]), NoPair, place=0)

    def test_two_ways_twice(self):
        again = (0, 1, nums(1, 1, 1, 1))
        self.refused(Table, (3, [GOOD[0], again]), NoPair, place=1)
        self.refused(Table, (3, [GOOD[0], GOOD[0]]), NoPair, place=1)
        self.refused(Table, (3, [GOOD[1], GOOD[0], GOOD[2], again]), NoPair, place=3)
        self.refused(Table, (3, [GOOD[1], GOOD[0], GOOD[2], (1, 2, nums(0, 0, 0, 0)), again]), NoPair, place=3)
        self.refused(Table, (3, [(0, 1, nums(0, 0, 0, 0)), again]), NoPair, place=1)
        self.refused(Table, (3, [(0, 1, nums(0, 0, 0, 0)), (0, 1, nums(0, 0, 0, 0))]), NoPair, place=1)

    def test_what_is_no_thing(self):
        for wrong in wrong_things(4):
            self.refused(Table, (3, [(0, 1, wrong)]), NoRow, place=0)
            self.refused(Table, (3, [GOOD[0], (1, 2, wrong)]), NoRow, place=1)
            self.refused(Table, (3, [GOOD[2], GOOD[0], (0, 2, wrong)]), NoRow, place=2)
        for count in (2, 4, 6):
            for wrong in ([I] * count, [I] * (count + 2), (I,) * (count + 1), [I] * count + [(2, 2)]):
                self.refused(Table, (count, [(0, 1, wrong)]), NoRow, place=0)

    def test_the_first_wrong_tuple_goes_first(self):
        no_pair, no_row = (1, 0, nums(0, 0, 0, 1)), (0, 2, nums(0, 0))
        self.refused(Table, (3, [no_pair, no_row]), NoPair, place=0)
        self.refused(Table, (3, [no_row, no_pair]), NoRow, place=0)
        self.refused(Table, (3, [GOOD[0], no_row, no_pair]), NoRow, place=1)
        self.refused(Table, (3, [GOOD[0], no_pair, no_row]), NoPair, place=1)
        self.refused(Table, (3, [GOOD[0], no_row, GOOD[0]]), NoRow, place=1)
        self.refused(Table, (3, [GOOD[0], GOOD[0], no_row]), NoPair, place=1)
        self.refused(Table, (3, [no_row, no_row]), NoRow, place=0)
        self.refused(Table, (3, [no_pair, no_pair]), NoPair, place=0)

    def test_both_faults_in_one_tuple(self):
        for wrong in (None, [], nums(1, 2), (N, N, N, N), [I, I, I, True]):
            for i, j in ((1, 0), (1, 1), (0, 3), (None, 1), (0, True), ([], [])):
                self.refused(Table, (3, [(i, j, wrong)]), NoPair, place=0)
                self.refused(Table, (3, [GOOD[0], (i, j, wrong)]), NoPair, place=1)
            self.refused(Table, (3, [GOOD[0], (0, 1, wrong)]), NoPair, place=1)

    def test_the_row_of_a_field_is_no_thing(self):
        field = table_of("two by two").leavings
        self.refused(Table, (3, list(field)), NoRow, place=0)
        self.assertEqual(Table(3, [(i, j, list(row)) for i, j, row in field]).leavings, field)

    def test_one_way_has_no_two(self):
        self.refused(Table, (1, [(0, 0, nums(0, 0))]), NoPair, place=0)
        self.refused(Table, (1, [(0, 1, nums(0, 0))]), NoPair, place=0)

    def test_a_refusal_changes_no_later_answer(self):
        leavings = [GOOD[0], (0, 2, None)]
        self.refused(Table, (3, leavings), NoRow, place=1)
        leavings[1] = GOOD[1]
        self.assertEqual(len(Table(3, leavings).leavings), 2)


class Left(Case):
    def test_what_is_no_thing(self):
        for count, leavings in ((1, []), KEEPS["two by two"], BREAKS["thirds"]):
            table, thing = Table(count, leavings), [I] * (count + 1)
            for wrong in wrong_things(count + 1):
                self.refused(table.left, (wrong, thing), NoRow, place=0)
                self.refused(table.left, (thing, wrong), NoRow, place=1)
                self.refused(table.left, (wrong, None), NoRow, place=0)
                self.refused(table.left, ([], wrong), NoRow, place=0)

    def test_widths(self):
        for count in range(1, 7):
            for width in range(9):
                if width != count + 1:
                    self.refused(Table(count, []).left, ([I] * width, [I] * (count + 1)), NoRow, place=0)
                    self.refused(Table(count, []).left, ([I] * (count + 1), [I] * width), NoRow, place=1)

    def test_a_refusal_changes_nothing(self):
        table = table_of("two by two")
        self.refused(table.left, (None, nums(1, 0, 0, 0)), NoRow, place=0)
        self.assertEqual(table.left(*unit_rows(4)[1:3]), nums(1, 0, 0, 0))
        self.assertIsNone(table.breaks())


if __name__ == "__main__":
    unittest.main()
