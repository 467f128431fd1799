"""kept: the one list of kept rows that a room has."""

import itertools
import unittest

from reckon import I, N, grids, is_plain_row, kept_faults, mixed_grid, nums, rank, unit_rows
from swaprest.rows import kept

TALL = 10 ** 999 + 7


class Kept(unittest.TestCase):
    def check(self, rows, width):
        """Hold what kept tells against all that point 6 says of it; by that there is just one list."""
        told = kept(rows, width)
        self.assertEqual(kept_faults(told, width), "")
        self.assertEqual(len(told), rank(rows))
        self.assertEqual(rank(told + rows), len(told))
        return told

    def test_written_out(self):
        self.assertEqual(kept([nums(2, 4)], 2), [nums(1, 2)])
        self.assertEqual(kept([nums(0, -3, 6)], 3), [nums(0, 1, -2)])
        self.assertEqual(kept([nums(1, 1), nums(1, -1)], 2), [nums(1, 0), nums(0, 1)])
        self.assertEqual(kept([nums(2, 1)], 2), [[(1, 1), (1, 2)]])
        self.assertEqual(kept([nums(0, 1, 1), nums(1, 1, 0)], 3), [nums(1, 0, -1), nums(0, 1, 1)])
        self.assertEqual(kept([nums(0, 0, 5), nums(0, 2, 1), nums(3, 1, 1)], 3), unit_rows(3))
        self.assertEqual(kept([[(1, 2), (1, 3)], [(1, 4), (-1, 5)]], 2), unit_rows(2))
        self.assertEqual(
            kept([nums(1, 2, 3, 4), nums(2, 4, 6, 9)], 4), [nums(1, 2, 3, 0), nums(0, 0, 0, 1)]
        )

    def test_no_rows(self):
        for width in (0, 1, 2, 7, 60):
            self.assertEqual(kept([], width), [])

    def test_width_nought(self):
        self.assertEqual(kept([[]], 0), [])
        self.assertEqual(kept([[], [], []], 0), [])

    def test_width_one(self):
        self.assertEqual(kept([nums(0)], 1), [])
        self.assertEqual(kept([nums(-7)], 1), [[I]])
        self.assertEqual(kept([nums(0), [(3, 5)], nums(2)], 1), [[I]])

    def test_noughts_alone(self):
        for width in (1, 3, 60):
            for many in (1, 2, 60):
                self.assertEqual(kept([[N] * width for _ in range(many)], width), [])

    def test_a_row_twice(self):
        row = [(2, 3), N, (-1, 5)]
        self.assertEqual(kept([row, row], 3), [[I, N, (-3, 10)]])
        self.assertEqual(kept([row, list(row), nums(0, 0, 0)], 3), [[I, N, (-3, 10)]])

    def test_rows_that_are_sums_of_others(self):
        rows = [nums(1, 2, 0, 3), nums(0, 1, 1, -1)]
        wanted = kept(rows, 4)
        self.assertEqual(wanted, [nums(1, 0, -2, 5), nums(0, 1, 1, -1)])
        for more in (nums(1, 3, 1, 2), nums(2, 3, -1, 7), [(1, 2), (1, 2), (-1, 2), (2, 1)], nums(0, 0, 0, 0)):
            for order in itertools.permutations(rows + [more]):
                self.assertEqual(kept(list(order), 4), wanted)

    def test_other_rows_of_the_same_room(self):
        rows = mixed_grid(3, 5, 11)
        wanted = self.check(rows, 5)
        for order in itertools.permutations(rows):
            self.assertEqual(kept(list(order), 5), wanted)
        self.assertEqual(kept([nums(-3, 0, -12), [N, I, (1, 2)]], 3), kept([nums(1, 0, 4), nums(0, 2, 1)], 3))
        self.assertEqual(kept([nums(1, 2, 5), nums(1, -2, 3)], 3), kept([nums(1, 0, 4), nums(0, 2, 1)], 3))
        self.assertEqual(kept(wanted, 5), wanted)
        self.assertEqual(kept(wanted + rows, 5), wanted)
        self.assertEqual(kept(wanted[::-1], 5), wanted)

    def test_all_small_grids(self):
        for rows in grids(2, 2, (-2, -1, 0, 1, 3)):
            self.check(rows, 2)
        for rows in grids(2, 3, (-1, 0, 2)):
            self.check(rows, 3)
        for rows in grids(3, 2, (-1, 0, 2)):
            self.check(rows, 2)
        for rows in grids(3, 3, (0, 1)):
            self.check(rows, 3)

    def test_mixed_fractions(self):
        for height, width in ((1, 4), (2, 7), (4, 4), (5, 3), (6, 9), (9, 6)):
            for salt in range(4):
                self.check(mixed_grid(height, width, salt), width)

    def test_late_leads_come_first_in_the_list(self):
        rows = [nums(0, 0, 0, 1, 2), nums(0, 0, 3, 1, 0), nums(0, 1, 1, 1, 1), nums(0, 0, 0, 0, 0)]
        self.check(rows, 5)
        self.check(rows[::-1], 5)

    def test_the_widest(self):
        told = self.check(mixed_grid(20, 60, 5), 60)
        self.assertEqual(len(told), 20)
        self.assertEqual(kept(mixed_grid(60, 60, 6), 60), unit_rows(60))
        self.assertEqual(kept([[I] * 60] * 60, 60), [[I] * 60])

    def test_large_numbers(self):
        twenty = 73000000000000000019
        self.check([[(twenty, 3), (1, twenty), N], [(-1, 2), (twenty, 1), (5, twenty + 2)]], 3)
        rows = [[(TALL, 3), (1, TALL), (2, 1)], [(-1, 2), (TALL + 2, TALL), (5, 7)]]
        told = self.check(rows, 3)
        self.assertTrue(kept([told[1], told[0]], 3) == told)
        self.assertTrue(kept(told + rows, 3) == told)


class KeptLeavesAllAsItWas(unittest.TestCase):
    def test_what_was_handed_in(self):
        rows = [nums(2, 4, 1), nums(0, 0, 0), nums(1, 2, 1)]
        before = repr(rows)
        inner = list(rows)
        kept(rows, 3)
        self.assertEqual(repr(rows), before)
        self.assertTrue(all(one is other for one, other in zip(rows, inner)))

    def test_told_lists_are_new(self):
        rows = unit_rows(3)
        told = kept(rows, 3)
        self.assertEqual(told, rows)
        self.assertIsNot(told, rows)
        lists = [told] + told + [rows] + rows
        self.assertEqual(len({id(one) for one in lists}), len(lists))
        told[0][0] = None
        told.append("x")
        self.assertEqual(rows, unit_rows(3))
        self.assertEqual(kept(rows, 3), unit_rows(3))

    def test_the_empty_list_is_new(self):
        rows = []
        told = kept(rows, 2)
        self.assertIsNot(told, rows)
        told.append("x")
        self.assertEqual(kept([], 2), [])
        self.assertEqual(rows, [])

    def test_later_changes_of_what_was_handed_in(self):
        row = nums(1, 5)
        rows = [row]
        told = kept(rows, 2)
        row[1] = (9, 1)
        rows.append(nums(1, 0))
        self.assertEqual(told, [nums(1, 5)])

    def test_asked_again(self):
        rows = mixed_grid(3, 4, 2)
        self.assertEqual(kept(rows, 4), kept(rows, 4))
        self.assertTrue(all(is_plain_row(row, 4) for row in kept(rows, 4)))


if __name__ == "__main__":
    unittest.main()
