"""summed: weights where a row lies in the room of the rows, else a test that tells them apart."""

import unittest

from reckon import I, N, grids, is_plain_row, mixed_grid, nums, pair, rank, unit_rows, worth
from swaprest.rows import kept, summed

TALL = 10 ** 999 + 7


class Summed(unittest.TestCase):
    def check(self, rows, row):
        """Hold the answer against point 6, and that it is the one of the two that is so."""
        told = summed(rows, row)
        self.assertIs(told.__class__, tuple)
        self.assertEqual(len(told), 2)
        within = rank(rows + [row]) == rank(rows)
        self.assertEqual(told[0], "sum" if within else "apart")
        if within:
            self.check_weights(rows, row, told[1])
        else:
            self.check_test(rows, row, told[1])
        return told[0]

    def check_weights(self, rows, row, weights):
        self.assertTrue(is_plain_row(weights, len(rows)))
        for at, wanted in enumerate(row):
            got = sum(worth(weight) * worth(other[at]) for weight, other in zip(weights, rows))
            self.assertTrue(got == worth(wanted), "the weights sum to another row")

    def check_test(self, rows, row, test):
        self.assertTrue(is_plain_row(test, len(row)))
        for other in rows:
            self.assertTrue(pair(test, other) == 0, "the test doesn't pair to nought with a row")
        self.assertTrue(pair(test, row) == 1, "the test doesn't pair to 1 with the row")

    def test_written_out(self):
        self.assertEqual(summed([nums(1, 1), nums(1, -1)], nums(3, 1)), ("sum", nums(2, 1)))
        self.assertEqual(summed([nums(2, 0)], nums(1, 0)), ("sum", [(1, 2)]))
        self.assertEqual(summed([nums(0, 3), nums(2, 0)], nums(1, 1)), ("sum", [(1, 3), (1, 2)]))
        self.assertEqual(summed([nums(1)], nums(-4)), ("sum", nums(-4)))
        self.assertEqual(summed([nums(0)], nums(-4)), ("apart", [(-1, 4)]))
        self.assertEqual(summed([nums(1, 0)], nums(5, 2)), ("apart", [N, (1, 2)]))

    def test_no_rows(self):
        self.assertEqual(summed([], nums(0, 0, 0)), ("sum", []))
        self.assertEqual(self.check([], nums(0, 3, 0)), "apart")
        self.assertEqual(self.check([], nums(-2)), "apart")
        self.assertEqual(self.check([], [N] * 60), "sum")
        self.assertEqual(self.check([], [N] * 59 + [(2, 3)]), "apart")

    def test_width_nought(self):
        self.assertEqual(summed([], []), ("sum", []))
        self.assertEqual(self.check([[]], []), "sum")
        self.assertEqual(self.check([[], [], []], []), "sum")

    def test_a_row_of_noughts(self):
        self.assertEqual(self.check([nums(1, 2)], nums(0, 0)), "sum")
        self.assertEqual(self.check([nums(0, 0)], nums(0, 0)), "sum")
        self.assertEqual(self.check([nums(0, 0), nums(0, 0)], nums(0, 1)), "apart")
        self.assertEqual(self.check(mixed_grid(3, 4, 1), [N] * 4), "sum")
        self.assertEqual(self.check([nums(0, 0, 0), nums(1, 2, 3), nums(0, 0, 0)], nums(2, 4, 6)), "sum")

    def test_rows_that_are_sums_of_others(self):
        rows = [nums(1, 2, 3), nums(2, 4, 6), nums(0, 1, 0), nums(1, 3, 3), nums(1, 2, 3)]
        self.assertEqual(self.check(rows, nums(5, -1, 15)), "sum")
        self.assertEqual(self.check(rows, nums(5, -1, 14)), "apart")

    def test_the_whole_room(self):
        for width in (1, 2, 5):
            rows = unit_rows(width)
            row = [(-2, 1), (-1, 2), N, (1, 4), (2, 5)][:width]
            self.assertEqual(summed(rows, row), ("sum", row))

    def test_all_small_ones(self):
        counts = {"sum": 0, "apart": 0}
        for *rows, row in grids(3, 2, (-1, 0, 2)):
            counts[self.check(rows, row)] += 1
        for *rows, row in grids(2, 3, (-1, 0, 3)):
            counts[self.check(rows, row)] += 1
        for *rows, row in grids(4, 2, (0, 1)):
            counts[self.check(rows, row)] += 1
        for *rows, row in grids(3, 3, (0, 1)):
            counts[self.check(rows, row)] += 1
        self.assertGreater(min(counts.values()), 100)

    def test_mixed_fractions(self):
        for salt in range(5):
            rows = mixed_grid(3, 6, salt)
            total = [N] * 6
            for at in range(6):
                top = sum(k * worth(row[at]) for k, row in zip((2, -3, 5), rows))
                total[at] = (top.numerator, top.denominator)
            self.assertEqual(self.check(rows, total), "sum")
            total[5] = (total[5][0] + total[5][1], total[5][1])
            self.assertEqual(self.check(rows, total), "apart")
            self.assertEqual(self.check(mixed_grid(7, 4, salt), mixed_grid(1, 4, salt + 50)[0]), "sum")

    def test_the_widest(self):
        rows = mixed_grid(59, 60, 8)
        self.assertEqual(self.check(rows, mixed_grid(1, 60, 9)[0]), "apart")
        self.assertEqual(self.check(rows + mixed_grid(1, 60, 10), mixed_grid(1, 60, 9)[0]), "sum")
        self.assertEqual(self.check(rows, list(rows[30])), "sum")

    def test_large_numbers(self):
        twenty = 73000000000000000019
        rows = [[(twenty, 3), (1, twenty), N], [(-1, 2), (twenty, 1), (5, twenty + 2)]]
        self.assertEqual(self.check(rows, [N, (1, 1), N]), "apart")
        self.assertEqual(self.check(rows + [nums(0, 0, 1)], [(1, twenty), (1, 1), N]), "sum")
        tall = [[(TALL, 3), (1, TALL)], [(-1, 2), (TALL + 2, TALL)]]
        self.assertEqual(self.check(tall, [(1, TALL), (TALL, 1)]), "sum")
        self.assertEqual(self.check(tall[:1], tall[1]), "apart")
        again = summed(tall, [(1, TALL), (TALL, 1)])[1]
        self.assertEqual(self.check(kept(tall[:1], 2), again), "apart")
        self.assertEqual(self.check(tall + [again], again), "sum")


class SummedLeavesAllAsItWas(unittest.TestCase):
    def test_what_was_handed_in(self):
        for row in (nums(3, 4, 2), nums(3, 4, 9), nums(0, 0, 0)):
            rows = [nums(2, 4, 1), nums(0, 0, 0), nums(1, 0, 1)]
            before = repr((rows, row))
            inner = list(rows)
            summed(rows, row)
            self.assertEqual(repr((rows, row)), before)
            self.assertTrue(all(one is other for one, other in zip(rows, inner)))

    def test_told_lists_are_new(self):
        for rows, row, wanted in (
            ([nums(1)], nums(1), ("sum", [I])),
            ([], nums(1), ("apart", [I])),
            ([nums(1, 0)], nums(0, 1), ("apart", nums(0, 1))),
            (unit_rows(2), nums(1, 0), ("sum", nums(1, 0))),
            ([], [], ("sum", [])),
        ):
            told = summed(rows, row)
            self.assertEqual(told, wanted)
            self.assertTrue(all(told[1] is not one for one in [rows, row] + rows))
            told[1].append("x")
            self.assertEqual(summed(rows, row), wanted)

    def test_a_row_that_is_one_of_the_rows_itself(self):
        rows = [nums(1, 2), nums(3, 5)]
        told = summed(rows, rows[1])
        self.assertEqual(told, ("sum", nums(0, 1)))
        self.assertEqual(rows, [nums(1, 2), nums(3, 5)])

    def test_later_changes_of_what_was_handed_in(self):
        rows, row = [nums(1, 0)], nums(0, 1)
        told = summed(rows, row)
        row[1] = (5, 1)
        rows[0][0] = N
        self.assertEqual(told, ("apart", nums(0, 1)))

    def test_asked_again(self):
        rows = mixed_grid(5, 3, 2)
        row = mixed_grid(1, 3, 3)[0]
        self.assertEqual(summed(rows, row), summed(rows, row))
        self.assertEqual(summed(rows[:2], row), summed(rows[:2], row))


if __name__ == "__main__":
    unittest.main()
