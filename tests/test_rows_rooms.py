"""noughts and common: rooms that come of other rooms."""

import unittest

from reckon import I, N, grids, kept_faults, mixed_grid, nums, pair, rank, unit_rows
from swaprest.rows import common, kept, noughts

TALL = 10 ** 999 + 7


class Noughts(unittest.TestCase):
    def check(self, rows, width):
        """Hold each told row, and their count, against point 7."""
        told = noughts(rows, width)
        self.assertEqual(kept_faults(told, width), "")
        for one in told:
            self.assertTrue(all(pair(one, row) == 0 for row in rows), "a pairing that isn't nought")
        self.assertEqual(len(told), width - rank(rows))
        return told

    def test_written_out(self):
        self.assertEqual(noughts([nums(1, 1)], 2), [nums(1, -1)])
        self.assertEqual(noughts([nums(2, 1)], 2), [nums(1, -2)])
        self.assertEqual(noughts([nums(1, 2, 3)], 3), [[I, N, (-1, 3)], [N, I, (-2, 3)]])
        self.assertEqual(noughts([nums(0, 1, 0)], 3), [nums(1, 0, 0), nums(0, 0, 1)])
        self.assertEqual(noughts([nums(1, 0, 1), nums(0, 1, 1)], 3), [nums(1, 1, -1)])
        self.assertEqual(noughts([[(1, 2), (1, 3)]], 2), [[I, (-3, 2)]])

    def test_the_room_of_noughts_alone(self):
        for width in (1, 2, 3, 60):
            self.assertEqual(noughts([], width), unit_rows(width))
            self.assertEqual(noughts([[N] * width], width), unit_rows(width))
            self.assertEqual(noughts([[N] * width, [N] * width], width), unit_rows(width))

    def test_the_whole_room(self):
        for width in (1, 2, 3, 60):
            self.assertEqual(noughts(unit_rows(width), width), [])
            self.assertEqual(noughts(mixed_grid(width + 1, width, 4)[:60], width), [])

    def test_width_nought(self):
        self.assertEqual(noughts([], 0), [])
        self.assertEqual(noughts([[]], 0), [])
        self.assertEqual(noughts([[], []], 0), [])

    def test_all_small_grids(self):
        for rows in grids(1, 3, (-2, -1, 0, 1, 3)):
            self.check(rows, 3)
        for rows in grids(2, 3, (-1, 0, 2)):
            self.check(rows, 3)
        for rows in grids(3, 2, (-1, 0, 2)):
            self.check(rows, 2)
        for rows in grids(3, 3, (0, 1)):
            self.check(rows, 3)

    def test_mixed_fractions(self):
        for height, width in ((1, 4), (2, 7), (4, 4), (3, 9), (6, 9), (9, 6)):
            for salt in range(4):
                self.check(mixed_grid(height, width, salt), width)

    def test_twice_is_the_room_itself(self):
        for height, width in ((1, 4), (3, 5), (5, 5)):
            rows = mixed_grid(height, width, 7)
            self.assertEqual(noughts(noughts(rows, width), width), kept(rows, width))

    def test_the_widest(self):
        told = self.check(mixed_grid(45, 60, 3), 60)
        self.assertEqual(len(told), 15)

    def test_large_numbers(self):
        twenty = 73000000000000000019
        self.check([[(twenty, 3), (1, twenty), N], [(-1, 2), (twenty, 1), (5, twenty + 2)]], 3)
        rows = [[(TALL, 3), (1, TALL), (2, 1)], [(-1, 2), (TALL + 2, TALL), (5, 7)]]
        told = self.check(rows, 3)
        again = self.check(told, 3)
        self.assertTrue(again == kept(rows, 3))

    def test_all_stays_as_it_was(self):
        rows = [nums(1, 2, 0), nums(2, 4, 0)]
        before = repr(rows)
        wanted = [[I, (-1, 2), N], [N, N, I]]
        told = noughts(rows, 3)
        self.assertEqual(repr(rows), before)
        self.assertEqual(told, wanted)
        lists = [told] + told + [rows] + rows
        self.assertEqual(len({id(one) for one in lists}), len(lists))
        rows[0][0] = (9, 1)
        self.assertEqual(told, wanted)
        told[0].append("x")
        told.append("x")
        self.assertEqual(noughts([nums(1, 2, 0)], 3), wanted)
        self.assertEqual(noughts([nums(1, 2, 0)], 3), wanted)

    def test_the_whole_room_is_told_anew(self):
        told = noughts([], 2)
        told[0][1] = "x"
        told.clear()
        self.assertEqual(noughts([], 2), unit_rows(2))
        told = noughts(unit_rows(2), 2)
        told.append("x")
        self.assertEqual(noughts(unit_rows(2), 2), [])


class Common(unittest.TestCase):
    def check(self, one, other, width):
        """Hold each told row, and their count, against point 7."""
        told = common(one, other, width)
        self.assertEqual(kept_faults(told, width), "")
        for rows in (one, other):
            self.assertEqual(rank(rows + told), rank(rows), "a row that lies outside")
        self.assertEqual(len(told), rank(one) + rank(other) - rank(one + other))
        return told

    def test_written_out(self):
        self.assertEqual(common([nums(1, 0, 0), nums(0, 1, 0)], [nums(0, 1, 0), nums(0, 0, 1)], 3), [nums(0, 1, 0)])
        self.assertEqual(common([nums(1, 0)], [nums(0, 1)], 2), [])
        self.assertEqual(common([nums(1, 2)], [nums(-2, -4)], 2), [nums(1, 2)])
        self.assertEqual(common([nums(1, 1, 0), nums(0, 0, 1)], [nums(1, 0, 1), nums(0, 1, 1)], 3), [nums(1, 1, 2)])
        self.assertEqual(common([nums(2, 1)], unit_rows(2), 2), [[I, (1, 2)]])

    def test_rooms_of_noughts_alone(self):
        for width in (1, 3, 60):
            self.assertEqual(common([], [], width), [])
            self.assertEqual(common([], unit_rows(width), width), [])
            self.assertEqual(common(unit_rows(width), [], width), [])
            self.assertEqual(common([[N] * width], unit_rows(width), width), [])
            self.assertEqual(common(unit_rows(width), [[N] * width, [N] * width], width), [])

    def test_whole_rooms(self):
        for width in (1, 2, 5, 60):
            self.assertEqual(common(unit_rows(width), unit_rows(width), width), unit_rows(width))
            rows = mixed_grid(width // 2 + 1, width, 6)
            self.assertEqual(common(rows, unit_rows(width), width), kept(rows, width))
            self.assertEqual(common(unit_rows(width), rows, width), kept(rows, width))

    def test_width_nought(self):
        self.assertEqual(common([], [], 0), [])
        self.assertEqual(common([[]], [], 0), [])
        self.assertEqual(common([[], []], [[]], 0), [])

    def test_all_small_grids(self):
        for rows in grids(4, 2, (-1, 0, 2)):
            self.check(rows[:2], rows[2:], 2)
        for rows in grids(3, 3, (0, 1)):
            self.check(rows[:2], rows[2:], 3)
            self.check(rows[:1], rows[1:], 3)
        for rows in grids(4, 3, (0, 1)):
            self.check(rows[:2], rows[2:], 3)

    def test_mixed_fractions(self):
        for salt in range(4):
            for width, one, other in ((4, 3, 3), (6, 4, 4), (7, 5, 6), (5, 2, 3), (3, 5, 1)):
                self.check(mixed_grid(one, width, salt), mixed_grid(other, width, salt + 20), width)
            shared = mixed_grid(2, 8, salt)
            one, other = mixed_grid(2, 8, salt + 40), mixed_grid(3, 8, salt + 60)
            self.assertEqual(self.check(one + shared, shared + other, 8), kept(shared, 8))

    def test_the_widest(self):
        told = self.check(mixed_grid(40, 60, 1), mixed_grid(35, 60, 2), 60)
        self.assertEqual(len(told), 15)

    def test_large_numbers(self):
        one = [[(TALL, 3), (1, TALL), (2, 1)], [(-1, 2), (TALL + 2, TALL), (5, 7)]]
        other = [nums(1, TALL, 0), nums(0, 1, 1)]
        told = self.check(one, other, 3)
        self.assertEqual(len(told), 1)
        self.assertTrue(common(one, told, 3) == told)

    def test_all_stays_as_it_was(self):
        one, other = unit_rows(3)[:2], unit_rows(3)[1:]
        before = repr((one, other))
        told = common(one, other, 3)
        self.assertEqual(repr((one, other)), before)
        self.assertEqual(told, [nums(0, 1, 0)])
        lists = [told] + told + [one, other] + one + other
        self.assertEqual(len({id(row) for row in lists}), len(lists))
        one[1][1] = (9, 1)
        self.assertEqual(told, [nums(0, 1, 0)])
        told[0][1] = "x"
        told.append("x")
        self.assertEqual(common(unit_rows(3)[:2], unit_rows(3)[1:], 3), [nums(0, 1, 0)])

    def test_one_list_handed_in_twice(self):
        rows = [nums(2, 4), nums(1, 2)]
        self.assertEqual(common(rows, rows, 2), [nums(1, 2)])
        self.assertEqual(rows, [nums(2, 4), nums(1, 2)])
        self.assertEqual(common(rows, rows, 2), common(rows, rows, 2))


if __name__ == "__main__":
    unittest.main()
