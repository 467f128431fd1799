"""What actings and all that is handed in beside them are refused for, in the order told."""

import itertools
import unittest

from reckon import (
    BREAKS, ENTRIES, GOOD, I, N, NO_LISTS, NO_NUMBERS, SPIN, STEP, TURN, Case, blank, first_break, no_sums, nums,
    side_by_side, still, table_of, whole_square, wrong_terms,
)
from swaprest.acting import acting_fault, both, facing, kept_by, led, room_beside, shelf_led, still_room
from swaprest.errors import Broken, NoCount, NoRow, NoShelf, NoSquare, NoSum, NotActing, NotBare, NotEaten, NotKept
from swaprest.tables import Table

TWO = table_of("two by two")

# All that is handed an acting, with what stands behind it right and wrong; those of bare tables apart.
ASKS = [
    lambda table, squares: led(table, squares, []),
    lambda table, squares: led(table, squares, [None]),
    still_room,
    lambda table, squares: kept_by(table, squares, []),
    lambda table, squares: kept_by(table, squares, [None]),
    lambda table, squares: room_beside(table, squares, []),
    lambda table, squares: room_beside(table, squares, [[], None]),
    lambda table, squares: shelf_led(table, squares, table.count, [], [N] * len(squares[0]), []),
    lambda table, squares: shelf_led(table, squares, None, None, None, [None]),
]
BARE_ASKS = [
    facing,
    lambda table, squares: both(table, squares, []),
    lambda table, squares: both(table, squares, [None] * table.count),
    lambda table, squares: both(table, squares, squares),
    lambda table, squares: both(table, [blank(1) for _ in range(table.count)], squares),
    lambda table, squares: both(table, [blank(3) for _ in range(table.count)], squares),
]
EVERY = [acting_fault] + ASKS + BARE_ASKS


def no_squares(most):
    """What is no square of side 1 to most."""
    found = [one for one in NO_LISTS] + [[], still(most + 1), still(6), [[]], [[], []], [nums(1, 0)], [nums(1), nums(1)]]
    found += [[nums(1, 0), nums(1)], [nums(1), nums(1, 0)], [nums(1, 0), nums(0, 1), nums(0, 0)], [nums(1, 0, 0), nums(0, 1, 0)]]
    found += [[one] for one in NO_LISTS] + [[nums(1, 0), one] for one in NO_LISTS] + [[one, nums(0, 1)] for one in NO_LISTS]
    found += [[[one]] for one in NO_NUMBERS] + [[[I, one], [N, I]] for one in NO_NUMBERS] + [[[I, N], [N, one]] for one in NO_NUMBERS]
    return found


class Squares(Case):
    def test_broken_goes_first(self):
        for name, (count, leavings) in BREAKS.items():
            for squares in ([blank(2) for _ in range(count)], [[] for _ in range(count)], [still(5)], [None] * count):
                for told_by in EVERY:
                    if squares[0] is None and told_by is ASKS[7]:
                        continue
                    self.refused(told_by, (table_of(name), squares), Broken, at=first_break(count, leavings)[:3])

    def test_then_not_bare(self):
        for name, pair in (
            ("place and push", (0, 1)), ("third and alone", (0, 1)), ("two by two, shifted", (0, 1)), ("two places, two pushes", (0, 2)),
        ):
            table = table_of(name)
            for squares in ([blank(2) for _ in range(table.count)], [None] * table.count, [still(5)]):
                for told_by in BARE_ASKS:
                    self.refused(told_by, (table, squares), NotBare, pair=pair)

    def test_another_count_of_squares(self):
        for name in ("one way", "two by two", "nothing left of six"):
            table = table_of(name)
            for many in range(1, 9):
                if many != table.count:
                    for told_by in EVERY:
                        self.refused(told_by, (table, [still(2) for _ in range(many)]), NoSquare, place=None)
            self.refused(acting_fault, (table, []), NoSquare, place=None)
            self.refused(acting_fault, (table, [None] * (table.count + 1)), NoSquare, place=None)
            self.refused(still_room, (table, [[]] * (table.count + 1)), NoSquare, place=None)

    def test_what_is_no_square(self):
        for wrong in no_squares(4):
            self.refused(acting_fault, (TWO, [wrong, SPIN[2][1], SPIN[2][2]]), NoSquare, place=0)
            self.refused(acting_fault, (TWO, [SPIN[2][0], wrong, SPIN[2][2]]), NoSquare, place=1)
            self.refused(acting_fault, (TWO, [SPIN[2][0], SPIN[2][1], wrong]), NoSquare, place=2)
            self.refused(acting_fault, (TWO, [wrong, wrong, wrong]), NoSquare, place=0)
            self.refused(acting_fault, (TWO, [still(2), wrong, None]), NoSquare, place=1)

    def test_by_every_function(self):
        for wrong in (None, True, [], [[]], 0, "ab", (), still(5), [nums(1, 0), nums(1)], [[N, I], [N, True]], [[(2, 2), N], [N, N]]):
            for told_by in EVERY:
                if not isinstance(wrong, list) and told_by is ASKS[7]:
                    continue
                for place in range(3):
                    squares = [SPIN[2][way] for way in range(3)]
                    squares[place] = wrong
                    self.refused(told_by, (TWO, squares), NoSquare, place=place)
                self.refused(told_by, (TWO, [wrong, None, wrong]), NoSquare, place=0)
                self.refused(told_by, (TWO, [STEP, wrong, wrong]), NoSquare, place=1)

    def test_sides_like_the_first_one(self):
        for one, other in itertools.permutations(range(1, 5), 2):
            for told_by in EVERY:
                self.refused(told_by, (TWO, [still(one), still(other), still(one)]), NoSquare, place=1)
                self.refused(told_by, (TWO, [still(one), still(one), still(other)]), NoSquare, place=2)
                self.refused(told_by, (TWO, [still(one), still(other), still(other)]), NoSquare, place=1)

    def test_sides_one_to_four(self):
        table = table_of("one way")
        for side in (1, 2, 3, 4):
            self.assertIsNone(acting_fault(table, [still(side)]))
        for side in (0, 5, 6, 7):
            self.refused(acting_fault, (table, [still(side)]), NoSquare, place=0)
            self.refused(still_room, (table, [still(side)]), NoSquare, place=0)

    def test_then_not_acting(self):
        up, down = STEP, whole_square((0, 0), (1, 0))
        cases = [
            (TWO, [still(2), up, down], (0, 1)), (TWO, [blank(2), blank(2), still(2)], (0, 2)), (TWO, [still(2), blank(2), blank(2)], (1, 2)),
            (TWO, [SPIN[4][0], SPIN[4][1], SPIN[4][1]], (0, 2)), (Table(4, []), [up, up, up, down], (0, 3)),
            (Table(4, []), [still(2), up, up, down], (1, 3)), (Table(4, []), [still(2), still(2), up, down], (2, 3)),
        ]
        for table, squares, pair in cases:
            self.assertEqual(self.ask(acting_fault, table, squares), pair)
            for told_by in ASKS + BARE_ASKS[:5]:
                self.refused(told_by, (table, squares), NotActing, pair=pair)
        self.refused(led, (table_of("place and push"), [up, down], [None]), NotActing, pair=(0, 1))
        self.refused(led, (table_of("two by two, shifted"), SPIN[2], [None]), NotActing, pair=(0, 1))


class Both(Case):
    def test_all_of_the_first_list_goes_ahead(self):
        broken = [still(2), STEP, STEP]
        self.refused(both, (TWO, broken, []), NotActing, pair=(0, 1))
        self.refused(both, (TWO, [still(1), STEP, None], broken), NoSquare, place=1)
        self.refused(both, (TWO, [still(1)], [None] * 3), NoSquare, place=None)

    def test_then_all_of_the_second(self):
        self.refused(both, (TWO, SPIN[4], []), NoSquare, place=None)
        self.refused(both, (TWO, SPIN[4], [SPIN[2][0], SPIN[2][1], None]), NoSquare, place=2)
        self.refused(both, (TWO, SPIN[4], [SPIN[2][0], SPIN[2][2], SPIN[2][1]]), NotActing, pair=(0, 1))
        self.refused(both, (TWO, SPIN[2], [still(5)] * 3), NoSquare, place=0)

    def test_then_the_sides(self):
        for one, other in itertools.product(SPIN, repeat=2):
            if one * other > 4:
                self.refused(both, (TWO, SPIN[one], SPIN[other]), NoCount)
            else:
                self.assertIsNone(acting_fault(TWO, both(TWO, SPIN[one], SPIN[other])))


class Led(Case):
    def test_no_sum_behind_the_acting(self):
        for total, place in no_sums():
            self.refused(led, (TWO, SPIN[2], total), NoSum, place=place)
        self.assertEqual(len(led(TWO, SPIN[2], GOOD)), 2)
        self.refused(led, (table_of("one way"), [STEP], [((1,), I)]), NoSum, place=0)


# The way 0 moves down, 1 stretches, 2 moves up.
DOWN = Table(3, [(0, 1, nums(2, 0, 0, 0)), (0, 2, nums(0, -1, 0, 0)), (1, 2, nums(0, 0, 2, 0))])
SQUARES = [SPIN[2][2], SPIN[2][0], SPIN[2][1]]
RIGHT = (1, nums(1, 0), nums(3, 0), [((), I), ((0,), I)])


class ShelfLed(Case):
    def wrong_with(self, which, one, error, **fields):
        """That it is refused so where one of the right things has another in its stead."""
        handed = list(RIGHT)
        handed[which] = one
        self.refused(shelf_led, (DOWN, SQUARES, *handed), error, **fields)

    def test_right(self):
        self.assertEqual(shelf_led(DOWN, SQUARES, *RIGHT), nums(3, 3))

    def test_the_shelf(self):
        for first in (-1, 4, 10 ** 30, True, False, None, "", "1", [], [1], (), (1,)):
            self.wrong_with(0, first, NoCount)
            self.refused(shelf_led, (DOWN, SQUARES, first, None, None, [None]), NoCount)
        for numbers in (*NO_LISTS, [], nums(1), nums(1, 0, 0), [I, None], *[[I, one] for one in NO_NUMBERS]):
            self.wrong_with(1, numbers, NoRow, place=None)
            self.refused(shelf_led, (DOWN, SQUARES, 1, numbers, None, [None]), NoRow, place=None)
        self.wrong_with(1, nums(1, 1), NoShelf, pair=(1, 2))
        self.refused(shelf_led, (DOWN, SQUARES, 1, nums(0, 2), None, [None]), NoShelf, pair=(1, 2))
        self.refused(shelf_led, (DOWN, SQUARES, 0, nums(1, 0, 0), None, [None]), NoShelf, pair=(0, 1))

    def test_the_shelf_sum(self):
        for wrong in wrong_terms(1):
            self.refused(shelf_led, (DOWN, SQUARES, 1, nums(1, 0), nums(3, 0), [wrong]), NoSum, place=0)
            self.refused(shelf_led, (DOWN, SQUARES, 1, nums(1, 0), None, [((0,), I), wrong]), NoSum, place=1)
        for total, place in no_sums():
            if place == 0:
                self.refused(shelf_led, (DOWN, SQUARES, 3, [], None, total), NoSum, place=0)
        self.refused(shelf_led, (DOWN, SQUARES, 1, nums(1, 0), None, [((0,), I), ((0, 1), I), None]), NoSum, place=1)
        self.refused(shelf_led, (DOWN, SQUARES, 3, [], nums(1), [((), I), ((1, 0), I), ((0, 0), I)]), NoSum, place=1)
        self.refused(shelf_led, (DOWN, SQUARES, 3, [], nums(1), [((), I), ((0, 1), I), ((0, 0), I)]), NoSum, place=2)

    def test_the_row(self):
        for row in (*NO_LISTS, [], nums(1), nums(1, 0, 0), nums(0, 1, 0, 0), [nums(1, 0)], *[[N, one] for one in NO_NUMBERS], *[[one, N] for one in NO_NUMBERS]):
            self.wrong_with(2, row, NoRow, place=None)

    def test_not_eaten(self):
        self.wrong_with(2, nums(0, 1), NotEaten, way=1)
        self.wrong_with(2, nums(1, 1), NotEaten, way=1)
        self.refused(shelf_led, (DOWN, SQUARES, 1, nums(-1, 0), nums(0, 1), []), NotEaten, way=2)
        self.refused(shelf_led, (DOWN, SQUARES, 1, nums(2, 0), nums(1, 0), []), NotEaten, way=1)
        self.refused(shelf_led, (DOWN, SQUARES, 2, nums(1), nums(1, 0), []), NotEaten, way=2)
        self.refused(shelf_led, (DOWN, SQUARES, 0, nums(0, 0, 0), nums(1, 0), []), NotEaten, way=0)
        self.refused(shelf_led, (DOWN, SQUARES, 0, nums(0, 0, 0), nums(0, 1), []), NotEaten, way=1)
        self.assertEqual(shelf_led(DOWN, SQUARES, 1, nums(7, 0), nums(0, 0), [((), I)]), nums(0, 0))
        self.assertEqual(shelf_led(DOWN, SQUARES, 3, [], nums(1, 1), [((), I)]), nums(1, 1))


def no_rows(width):
    """What is no row of the width."""
    found = [one for one in NO_LISTS] + [[], [N] * (width - 1), [N] * (width + 1), [[N] * width]]
    return found + [[N] * (width - 1) + [one] for one in NO_NUMBERS] + [[one] + [I] * (width - 1) for one in NO_NUMBERS]


class Rooms(Case):
    def test_rows_of_another_width(self):
        for side in (2, 3):
            for wrong in no_rows(side):
                for told_by in (kept_by, room_beside):
                    self.refused(told_by, (TWO, SPIN[side], [wrong]), NoRow, place=0)
                    self.refused(told_by, (TWO, SPIN[side], [[I] + [N] * (side - 1), [N] * side, wrong, None]), NoRow, place=2)

    def test_then_rooms_that_are_not_kept(self):
        for name, squares, rows, pair in (
            ("two by two", SPIN[2], [nums(1, 0)], (2, 0)),
            ("two by two", SPIN[2], [nums(0, 5)], (1, 0)),
            ("two by two", SPIN[2], [nums(1, 1)], (0, 0)),
            ("two by two", SPIN[3], [nums(0, 0, 3), nums(7, 0, 0)], (1, 1)),
            ("two by two", SPIN[3], [nums(1, 0, 0), nums(0, 1, 0)], (2, 1)),
            ("two by two", SPIN[3], [nums(1, 1, 0), nums(0, 1, 0)], (2, 1)),
            ("two by two", SPIN[3], [nums(0, 0, 1), nums(0, 1, 0), nums(0, 1, 1)], (1, 0)),
            ("two by two", side_by_side(SPIN[1], SPIN[2]), [nums(2, 0, 0), nums(1, 0, 1)], (1, 1)),
            ("one way", [STEP], [nums(0, 1)], (0, 0)),
            ("one way", [TURN[4][0]], [nums(0, 0, 0, 1), nums(1, 0, 0, 0)], (0, 1)),
            ("nothing left of two", [still(2), STEP], [nums(0, 1), nums(0, 2)], (1, 0)),
            ("all of two by two", ENTRIES, [nums(0, 2)], (1, 0)),
            ("all of two by two", ENTRIES, [nums(1, 0)], (2, 0)),
        ):
            self.refused(room_beside, (table_of(name), squares, rows), NotKept, pair=pair)
            self.refused(room_beside, (table_of(name), squares, rows + [None]), NoRow, place=len(rows))
            kept_by(table_of(name), squares, rows)


if __name__ == "__main__":
    unittest.main()
