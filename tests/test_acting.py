"""acting_fault, led, facing, both, shelf_led: held against squares reckoned by fractions, and against words."""

import itertools
import unittest
from fractions import Fraction

from reckon import (
    ENTRIES, I, KEEPS, N, SPIN, STEP, TURN, Case, after_plain, all_actings, blank, fault_plain, is_bare, is_plain_row,
    mixed_grid, mixed_sum, moved_plain, number, nums, rise_plain, shifted, side_by_side, still, sum_of, sum_squares, table_of,
    terms_of, times_row, whole_square, worth,
)
from swaprest.acting import acting_fault, both, facing, led, shelf_led
from swaprest.shelves import moved_on
from swaprest.sums import swap_of
from swaprest.tables import Table
from swaprest.words import of_thing, product, risen, steps_up, walked


def led_plain(squares, total):
    """The square of a sum, by the words of point 24."""
    side = len(squares[0])
    parts = []
    for word, one in total:
        square = still(side)
        for way in reversed(word):
            square = after_plain(squares[way], square)
        parts.append((worth(one), square))
    return sum_squares(side, *parts)


class ActingFault(Case):
    def test_actings(self):
        sides = set()
        for name, squares in all_actings():
            self.assertIsNone(fault_plain(*KEEPS[name], squares))
            self.assertIsNone(self.ask(acting_fault, table_of(name), squares))
            sides.add(len(squares[0]))
        self.assertEqual(sides, {1, 2, 3, 4})

    def test_noughts_act_on_bare_tables(self):
        for name, (count, leavings) in KEEPS.items():
            for side in range(1, 5):
                wanted = next(((i, j) for i, j, row in sorted(leavings) if row[-1] != N), None)
                self.assertEqual(self.ask(acting_fault, table_of(name), [blank(side) for _ in range(count)]), wanted)

    def test_one_number_changed(self):
        seen = set()
        for name, squares in all_actings():
            side = len(squares[0])
            for way, r, k in itertools.product(range(len(squares)), range(side), range(side)):
                changed = [[list(row) for row in square] for square in squares]
                changed[way][r][k] = number(worth(changed[way][r][k]) + Fraction(1, 2))
                told = self.ask(acting_fault, table_of(name), changed)
                self.assertEqual(told, fault_plain(*KEEPS[name], changed))
                seen.add(told)
        self.assertTrue({None, (0, 1), (0, 2), (1, 2)} <= seen)

    def test_the_first_pair(self):
        table = Table(4, [])
        up, down = STEP, whole_square((0, 0), (1, 0))
        for i, j in itertools.combinations(range(4), 2):
            squares = [still(2) for _ in range(4)]
            squares[i], squares[j] = up, down
            self.assertEqual(self.ask(acting_fault, table, squares), (i, j))
        self.assertEqual(self.ask(acting_fault, table, [still(2), up, down, up]), (1, 2))
        self.assertEqual(self.ask(acting_fault, table, [still(2), up, up, down]), (1, 3))
        self.assertEqual(self.ask(acting_fault, table, [up, up, up, down]), (0, 3))

    def test_the_number_alone_counts(self):
        self.assertEqual(self.ask(acting_fault, table_of("place and push"), [STEP, whole_square((0, 0), (1, 0))]), (0, 1))
        squares = shifted(SPIN[2], Fraction(-1, 3), 2, Fraction(1, 2))
        self.assertIsNone(acting_fault(table_of("two by two, shifted"), squares))
        self.assertEqual(acting_fault(table_of("two by two"), squares), (0, 1))
        self.assertEqual(acting_fault(table_of("two by two, shifted"), SPIN[2]), (0, 1))
        squares = shifted(SPIN[2], 0, 2, Fraction(1, 2))
        self.assertEqual(acting_fault(table_of("two by two, shifted"), squares), (1, 2))

    def test_large_numbers(self):
        tall = 10 ** 999 + 7
        squares = [[[(tall, 3), N], [N, N]], [[N, I], [N, N]]]
        table = Table(2, [(0, 1, [N, (tall, 3), N])])
        self.assertIsNone(self.ask(acting_fault, table, squares))
        self.assertEqual(led(table, squares, [((0, 0), I)]), [[(tall ** 2, 9), N], [N, N]])


class Led(Case):
    def test_written_out(self):
        table = table_of("two by two")
        self.assertEqual(self.ask(led, table, SPIN[2], [((1, 2), I)]), whole_square((1, 0), (0, 0)))
        self.assertEqual(self.ask(led, table, SPIN[2], [((2, 1), I)]), whole_square((0, 0), (0, 1)))
        self.assertEqual(self.ask(led, table, SPIN[3], [((1, 1, 2), (1, 2))]), whole_square((0, 2, 0), (0, 0, 0), (0, 0, 0)))
        self.assertEqual(self.ask(led, table, SPIN[4], []), blank(4))
        for squares in SPIN.values():
            self.assertEqual(self.ask(led, table, squares, [((), (2, 3))]), sum_squares(len(squares[0]), (Fraction(2, 3), still(len(squares[0])))))

    def test_the_one_that_all_pass(self):
        middle = [((0,), (-2, 1)), ((0, 0), I), ((1, 2), (4, 1))]
        for side, squares in SPIN.items():
            told = self.ask(led, table_of("two by two"), squares, middle)
            self.assertEqual(told, sum_squares(side, (side * side - 1, still(side))))

    def test_each_way_is_its_square(self):
        for name, squares in all_actings():
            for way, square in enumerate(squares):
                self.assertEqual(self.ask(led, table_of(name), squares, [((way,), I)]), square)

    def test_against_words(self):
        for salt, (name, squares) in enumerate(all_actings()):
            for turn in range(3):
                total = mixed_sum(len(squares), 3 + turn, 4, salt + turn * 100)
                told = self.ask(led, table_of(name), squares, total)
                self.assertIs(told.__class__, list)
                self.assertTrue(all(is_plain_row(row, len(told)) for row in told))
                self.assertEqual(told, led_plain(squares, total))

    def test_steps_lead_to_the_same(self):
        for salt, (name, squares) in enumerate(all_actings()):
            table, leavings = table_of(name), KEEPS[name][1]
            total = mixed_sum(len(squares), 5, 4, salt + 7)
            told = led(table, squares, total)
            self.assertEqual(led(table, squares, risen(table, total)), told)
            self.assertEqual(led(table, squares, rise_plain(leavings, total)), told)
            steps = steps_up(table, total)
            for many in range(0, len(steps), 3):
                self.assertEqual(led(table, squares, walked(table, total, steps[:many])), told)

    def test_products(self):
        for salt, (name, squares) in enumerate(all_actings()):
            table = table_of(name)
            one, other = mixed_sum(len(squares), 2, 3, salt), mixed_sum(len(squares), 3, 3, salt + 31)
            first, second = led(table, squares, one), led(table, squares, other)
            self.assertEqual(led(table, squares, product(table, one, other)), after_plain(first, second))
            swap = sum_squares(len(first), (1, after_plain(first, second)), (-1, after_plain(second, first)))
            self.assertEqual(led(table, squares, swap_of(table, one, other)), swap)

    def test_what_is_left(self):
        for salt, (name, squares) in enumerate(all_actings()):
            table = table_of(name)
            one, other = mixed_grid(2, table.count + 1, salt)
            first, second = [led(table, squares, of_thing(table, thing)) for thing in (one, other)]
            wanted = sum_squares(len(first), (1, after_plain(first, second)), (-1, after_plain(second, first)))
            self.assertEqual(led(table, squares, of_thing(table, table.left(one, other))), wanted)


class FacingAndBoth(Case):
    def bare_actings(self):
        return [(name, squares) for name, squares in all_actings() if is_bare(KEEPS[name][1])]

    def test_facing_written_out(self):
        told = self.ask(facing, table_of("two by two"), SPIN[2])
        self.assertEqual(told, [whole_square((-1, 0), (0, 1)), whole_square((0, 0), (-1, 0)), whole_square((0, -1), (0, 0))])
        self.assertEqual(self.ask(facing, table_of("one way"), [[[(7, 2)]]]), [[[(-7, 2)]]])

    def test_facing(self):
        for name, squares in self.bare_actings():
            told = self.ask(facing, table_of(name), squares)
            wanted = [[times_row((-1, 1), column) for column in zip(*square)] for square in squares]
            self.assertEqual(told, wanted)
            self.assertIsNone(fault_plain(*KEEPS[name], told))
            self.assertEqual(self.ask(facing, table_of(name), told), squares)

    def test_both_written_out(self):
        told = self.ask(both, table_of("one way"), [whole_square((1, 2), (3, 4))], [whole_square((10, 20), (30, 40))])
        self.assertEqual(told, [whole_square((11, 20, 2, 0), (30, 41, 0, 2), (3, 0, 14, 20), (0, 3, 30, 44))])
        told = self.ask(both, table_of("one way"), [whole_square((7,))], [whole_square((1, 2, 3), (4, 5, 6), (7, 8, 9))])
        self.assertEqual(told, [whole_square((8, 2, 3), (4, 12, 6), (7, 8, 16))])

    def test_both(self):
        seen = set()
        for name, squares in self.bare_actings():
            for other_name, others in self.bare_actings():
                a, b = len(squares[0]), len(others[0])
                if name != other_name or a * b > 4:
                    continue
                seen.add((a, b))
                told = self.ask(both, table_of(name), squares, others)
                self.assertIsNone(fault_plain(*KEEPS[name], told))
                wanted = [blank(a * b) for _ in squares]
                for way, r, s, t, u in itertools.product(range(len(squares)), range(a), range(b), range(a), range(b)):
                    share = (worth(squares[way][r][t]) if s == u else 0) + (worth(others[way][s][u]) if r == t else 0)
                    wanted[way][r * b + s][t * b + u] = number(Fraction(share))
                self.assertEqual(told, wanted)
        self.assertEqual(seen, {(1, 1), (1, 2), (2, 1), (2, 2), (1, 3), (3, 1), (1, 4), (4, 1)})

    def test_both_moves_pairs_of_rows(self):
        for name, one, other in (
            ("two by two", SPIN[2], SPIN[2]), ("two by two", SPIN[2], facing(table_of("two by two"), SPIN[2])),
            ("all of two by two", ENTRIES, facing(table_of("all of two by two"), ENTRIES)), ("two by two", SPIN[1], SPIN[4]),
        ):
            told = both(table_of(name), one, other)
            for row, its in itertools.product(mixed_grid(2, len(one[0]), 3), mixed_grid(2, len(other[0]), 4)):
                for way, square in enumerate(told):
                    pairs = [
                        number(worth(x) * worth(y) + worth(z) * worth(w))
                        for x, z in zip(moved_plain(one[way], row), row) for y, w in zip(its, moved_plain(other[way], its))
                    ]
                    laid = [number(worth(x) * worth(y)) for x in row for y in its]
                    self.assertEqual(moved_plain(square, laid), pairs)


# The way 0 moves down, 1 stretches, 2 moves up: the squares of SPIN in this order.
DOWN = Table(3, [(0, 1, nums(2, 0, 0, 0)), (0, 2, nums(0, -1, 0, 0)), (1, 2, nums(0, 0, 2, 0))])


def shelf_actings():
    """Tuples (table, squares, first, numbers, row) in which the eaten ways move the row by their numbers."""
    found = []
    for side in range(1, 5):
        squares = [SPIN[side][2], SPIN[side][0], SPIN[side][1]]
        top = [I] + [N] * (side - 1)
        found.append((DOWN, squares, 1, nums(side - 1, 0), top))
        found.append((DOWN, squares, 2, nums(0), times_row((5, 3), top)))
        found.append((DOWN, squares, 3, [], mixed_grid(1, side, side)[0]))
        found.append((DOWN, squares, 1, nums(7, 0), [N] * side))
    found.append((DOWN, [SPIN[1][0]] * 3, 0, nums(0, 0, 0), nums(4)))
    low = [SPIN[2][2], SPIN[2][0], SPIN[2][1]]
    found.append((DOWN, side_by_side(low, [SPIN[1][0]] * 3), 1, nums(1, 0), nums(6, 0, 0)))
    found.append((DOWN, side_by_side(low, low), 1, nums(1, 0), nums(6, 0, -1, 0)))
    found.append((table_of("two by two, shifted"), shifted(SPIN[3], Fraction(-1, 3), 2, Fraction(1, 2)), 2, [(1, 2)], nums(0, 0, 4)))
    found.append((table_of("one way"), [TURN[3][0]], 1, [], nums(1, 2, 3)))
    found.append((table_of("one way"), [whole_square((2, 1), (0, 3))], 0, nums(3), nums(1, 1)))
    found.append((table_of("turns and moves"), [whole_square((1, 0), (0, 0)), STEP], 0, nums(1, 0), nums(5, 0)))
    found.append((table_of("turns and moves"), [whole_square((1, 0), (0, 0)), STEP], 1, nums(0), nums(5, 0)))
    squares = [sum_squares(2, (k, STEP), (k - 2, still(2))) for k in range(6)]
    found.append((table_of("nothing left of six"), squares, 2, nums(0, 1, 2, 3), nums(1, 0)))
    return found


def shelf_sum(first, long, many, salt):
    if first == 0:
        return [((), (2, 3))]
    return sum_of({tuple(sorted(word)): one for word, one in terms_of(mixed_sum(first, long, many, salt)).items()})


class ShelfLed(Case):
    def test_written_out(self):
        squares = [SPIN[3][2], SPIN[3][0], SPIN[3][1]]
        shelf = [((), I), ((0,), (3, 1)), ((0, 0), (1, 2))]
        self.assertEqual(self.ask(shelf_led, DOWN, squares, 1, nums(2, 0), nums(1, 0, 0), shelf), nums(1, 3, 1))
        self.assertEqual(self.ask(shelf_led, DOWN, squares, 1, nums(2, 0), nums(0, 0, 0), shelf), nums(0, 0, 0))
        self.assertEqual(self.ask(shelf_led, DOWN, squares, 1, nums(2, 0), nums(1, 0, 0), []), nums(0, 0, 0))

    def test_against_squares(self):
        for salt, (table, squares, first, numbers, row) in enumerate(shelf_actings()):
            for long in range(6):
                shelf = shelf_sum(first, long, 4, salt + long)
                told = self.ask(shelf_led, table, squares, first, numbers, row, shelf)
                self.assertTrue(is_plain_row(told, len(row)))
                self.assertEqual(told, moved_plain(led_plain(squares, shelf), row))

    def test_against_moved_on(self):
        seen = 0
        for salt, (table, squares, first, numbers, row) in enumerate(shelf_actings()):
            for long, other in ((1, 4), (2, 3), (3, 2), (4, 1), (5, 0)):
                total, shelf = mixed_sum(table.count, long, 4, salt + long), shelf_sum(first, other, 3, salt + other)
                shelf_row = shelf_led(table, squares, first, numbers, row, shelf)
                told = self.ask(shelf_led, table, squares, first, numbers, row, moved_on(table, first, numbers, total, shelf))
                self.assertEqual(told, moved_plain(led(table, squares, total), shelf_row))
                seen += any(one != N for one in told)
        self.assertGreater(seen, 40)


if __name__ == "__main__":
    unittest.main()
