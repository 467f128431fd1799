"""moved, after, back_square: held against sums place by place, and what they refuse."""

import unittest
from fractions import Fraction

from reckon import (
    I, N, NO_LISTS, NO_NUMBERS, Case, drawn, grids, is_plain_row, mixed_grid, number, nums, pair, rank, unit_rows, worth,
)
from swaprest.errors import NoRow, NoSquare
from swaprest.rows import kept
from swaprest.squares import after, back_square, moved

TALL = 10 ** 999 + 7


def through(square, row):
    """The moved row, by the words of point 8."""
    return [
        number(sum((worth(square[r][k]) * worth(row[k]) for k in range(len(row))), Fraction(0)))
        for r in range(len(square))
    ]


def whole_squares(side, many):
    """Squares of small whole numbers, always the same ones."""
    for salt in range(many):
        flat = drawn(salt + 77 * side, side * side, 7)
        yield [nums(*[one - 3 for one in flat[k * side:(k + 1) * side]]) for k in range(side)]


def wrong_squares():
    """All that is no square of side 1 to 6."""
    found = [
        [], [[]], [[], []], [[I, I]], [[I], [I]], [nums(1, 2), nums(3)], [nums(1), nums(2, 3)], [nums(1, 2), nums(3, 4, 5)],
        unit_rows(7), [[N] * 7] * 7, unit_rows(60), unit_rows(3)[:2], unit_rows(3) + [nums(0, 0, 0)],
        [nums(1, 2), (I, N)], [(I, N), nums(1, 2)], [nums(1, 2), None], [I, I], [I], [1], [None], ["a"], [["a"]], ["ab", "cd"],
    ]
    found.extend(NO_LISTS)
    found.append(tuple(unit_rows(2)))
    for side, r, k in ((1, 0, 0), (2, 0, 0), (2, 0, 1), (2, 1, 0), (2, 1, 1), (6, 5, 5), (6, 0, 3)):
        for wrong in NO_NUMBERS:
            square = unit_rows(side)
            square[r][k] = wrong
            found.append(square)
    return found


class Moved(Case):
    def test_written_out(self):
        self.assertEqual(self.ask(moved, [nums(1, 2), nums(3, 4)], nums(5, 7)), nums(19, 43))
        self.assertEqual(self.ask(moved, [nums(0, 1), nums(0, 0)], nums(5, 7)), nums(7, 0))
        self.assertEqual(self.ask(moved, [[(2, 3)]], [(3, 4)]), [(1, 2)])

    def test_sides_one_to_six(self):
        for side in range(1, 7):
            for salt in range(4):
                square, row = mixed_grid(side, side, salt), mixed_grid(1, side, salt + 9)[0]
                self.assertEqual(self.ask(moved, square, row), through(square, row))
                self.assertEqual(self.ask(moved, square, [N] * side), [N] * side)
                self.assertEqual(self.ask(moved, unit_rows(side), row), row)
                self.assertEqual(self.ask(moved, [[N] * side] * side, row), [N] * side)
                for at, unit in enumerate(unit_rows(side)):
                    self.assertEqual(moved(square, unit), [line[at] for line in square])

    def test_a_row_of_the_square_itself(self):
        square = mixed_grid(3, 3, 5)
        self.assertEqual(self.ask(moved, square, square[1]), through(square, square[1]))

    def test_large_numbers(self):
        square = [[(TALL, 3), (1, TALL)], [(-1, 2), (TALL + 2, TALL)]]
        row = moved(square, [(TALL, 7), (2, TALL)])
        self.assertEqual(row, through(square, [(TALL, 7), (2, TALL)]))
        self.assertEqual(self.ask(moved, square, row), through(square, row))


class After(Case):
    def test_written_out(self):
        one, other = [nums(0, 1), nums(0, 0)], [nums(0, 0), nums(1, 0)]
        self.assertEqual(self.ask(after, one, other), [nums(1, 0), nums(0, 0)])
        self.assertEqual(self.ask(after, other, one), [nums(0, 0), nums(0, 1)])
        self.assertEqual(self.ask(after, [nums(1, 2), nums(3, 4)], [nums(0, 1), nums(1, 1)]), [nums(2, 3), nums(4, 7)])

    def test_moves_as_the_second_and_then_the_first(self):
        for side in range(1, 7):
            for salt in range(4):
                one, other = mixed_grid(side, side, salt), mixed_grid(side, side, salt + 20)
                for first, second in ((one, other), (other, one), (one, one)):
                    told = self.ask(after, first, second)
                    self.assertEqual(len(told), side)
                    self.assertTrue(all(is_plain_row(row, side) for row in told))
                    for row in unit_rows(side) + mixed_grid(2, side, salt + 40):
                        self.assertEqual(moved(told, row), moved(first, moved(second, row)))
                self.assertEqual(after(one, unit_rows(side)), one)
                self.assertEqual(after(unit_rows(side), one), one)

    def test_told_rows_are_new(self):
        one = unit_rows(3)
        told = after(one, one)
        self.assertTrue(all(row is not other for row in told for other in one))
        self.assertEqual(len({id(row) for row in told}), 3)


class BackSquare(Case):
    def check(self, square):
        side = len(square)
        told = self.ask(back_square, square)
        self.assertIs(told.__class__, tuple)
        self.assertEqual(len(told), 2)
        if rank(square) == side:
            self.assertEqual(told[0], "back")
            self.assertEqual(len(told[1]), side)
            self.assertTrue(all(is_plain_row(row, side) for row in told[1]))
            self.assertEqual(after(told[1], square), unit_rows(side))
            self.assertEqual(after(square, told[1]), unit_rows(side))
        else:
            self.assertEqual(told[0], "blind")
            self.assertTrue(is_plain_row(told[1], side))
            self.assertNotEqual(told[1], [N] * side)
            self.assertTrue(all(pair(line, told[1]) == 0 for line in square))
        return told[0]

    def test_written_out(self):
        self.assertEqual(self.ask(back_square, [nums(1, 2), nums(3, 4)]), ("back", [nums(-2, 1), [(3, 2), (-1, 2)]]))
        self.assertEqual(self.ask(back_square, [[(-2, 3)]]), ("back", [[(-3, 2)]]))
        self.assertEqual(self.ask(back_square, [nums(0, 1), nums(1, 0)]), ("back", [nums(0, 1), nums(1, 0)]))
        for side in range(1, 7):
            self.assertEqual(self.ask(back_square, unit_rows(side)), ("back", unit_rows(side)))

    def test_all_small_ones(self):
        counts = {"back": 0, "blind": 0}
        for side, wholes in ((1, (-2, 0, 3)), (2, (-1, 0, 1, 2)), (3, (0, 1))):
            for square in grids(side, side, wholes):
                counts[self.check(square)] += 1
        self.assertGreater(min(counts.values()), 100)

    def test_sides_up_to_six(self):
        for side in range(1, 7):
            for square in whole_squares(side, 6):
                self.check(square)
            for salt in range(4):
                self.assertEqual(self.check(mixed_grid(side, side, salt + 3)), "back")

    def test_squares_without_one(self):
        for side in range(1, 7):
            self.assertEqual(self.check([[N] * side for _ in range(side)]), "blind")
        for side in range(2, 7):
            square = mixed_grid(side, side, side)
            square[-1] = list(square[0])
            self.assertEqual(self.check(square), "blind")
            square[-1] = [number(2 * worth(x) - worth(y)) for x, y in zip(square[0], square[-2])]
            self.assertEqual(self.check(square), "blind")
            self.assertEqual(self.check([row[:-1] + [row[0]] for row in mixed_grid(side, side, side + 9)]), "blind")
            self.assertEqual(self.check([[N] + row[1:] for row in mixed_grid(side, side, side + 9)]), "blind")
            self.assertEqual(self.check([row[:-1] + [N] for row in mixed_grid(side, side, side + 9)]), "blind")
            upper = [[I if at == k + 1 else N for at in range(side)] for k in range(side)]
            self.assertEqual(self.check(upper), "blind")

    def test_lines_in_another_order(self):
        for side in range(2, 7):
            self.assertEqual(self.check(unit_rows(side)[::-1]), "back")
            self.assertEqual(self.check(unit_rows(side)[1:] + unit_rows(side)[:1]), "back")
            self.assertEqual(self.check(mixed_grid(side, side, 4)[::-1]), "back")

    def test_back_and_back_again(self):
        for side in (1, 3, 6):
            square = mixed_grid(side, side, 11)
            self.assertEqual(back_square(back_square(square)[1]), ("back", square))

    def test_large_numbers(self):
        square = [[(TALL, 3), (1, TALL)], [(-1, 2), (TALL + 2, TALL)]]
        self.assertEqual(self.check(square), "back")
        self.assertEqual(self.check(back_square(square)[1]), "back")
        self.assertEqual(self.check([[(TALL, 3), (1, TALL)], [(TALL, 1), (3, TALL)]]), "blind")

    def test_what_is_told_may_be_handed_in(self):
        told = back_square([nums(1, 2), nums(2, 4)])
        self.assertEqual(kept([told[1]], 2), [[I, (-1, 2)]])


class Refusals(Case):
    def test_what_is_no_square(self):
        for wrong in wrong_squares():
            self.refused(moved, (wrong, [I]), NoSquare, place=None)
            self.refused(back_square, (wrong,), NoSquare, place=None)
            self.refused(after, (wrong, unit_rows(2)), NoSquare, place=0)
            self.refused(after, (unit_rows(2), wrong), NoSquare, place=1)

    def test_two_wrong_at_once(self):
        for wrong in wrong_squares()[::7]:
            for other in (None, [], [[]], unit_rows(7), [nums(1, 2), nums(3)], "ab"):
                self.refused(after, (wrong, other), NoSquare, place=0)
                self.refused(after, (other, wrong), NoSquare, place=0)
            for row in (None, [], nums(1, 2, 3, 4, 5, 6, 7), [True]):
                self.refused(moved, (wrong, row), NoSquare, place=None)

    def test_unlike_sides(self):
        for one in range(1, 7):
            for other in range(1, 7):
                if one != other:
                    self.refused(after, (unit_rows(one), unit_rows(other)), NoSquare, place=1)

    def test_a_row_of_another_width(self):
        for side in range(1, 7):
            for wrong in ([], [I] * (side - 1), [I] * (side + 1), [I] * 60, (I,) * side, [[I] * side]):
                self.refused(moved, (unit_rows(side), wrong), NoRow, place=None)
            for wrong in NO_LISTS:
                self.refused(moved, (unit_rows(side), wrong), NoRow, place=None)
            for wrong in NO_NUMBERS:
                self.refused(moved, (unit_rows(side), [I] * (side - 1) + [wrong]), NoRow, place=None)
                self.refused(moved, (unit_rows(side), [wrong] + [I] * (side - 1)), NoRow, place=None)


if __name__ == "__main__":
    unittest.main()
