"""What shelves and the sums beside them are refused for, in the order told."""

import itertools
import unittest

from reckon import (
    BREAKS, GOOD, I, KEEPS, N, NO_LISTS, NO_NUMBERS, Case, first_break, no_sums, nums, table_of, worth,
    wrong_terms,
)
from swaprest.errors import Broken, NoCount, NoRow, NoShelf, NoSum, TooLong
from swaprest.shelves import eaten, moved_on, silenced
from swaprest.tables import Table

NO_COUNTS = (-1, 10 ** 40, True, False, None, "", "1", [], [1], (), (1,), (1, 1), [[]])
LONG = [((0, 0, 0, 0, 0), I)]

# Each with all behind the shelf right, and with all behind it wrong.
SHELF_ASKS = [
    (lambda table, first, numbers: eaten(table, first, numbers, [])),
    (lambda table, first, numbers: eaten(table, first, numbers, [None])),
    (lambda table, first, numbers: moved_on(table, first, numbers, [], [])),
    (lambda table, first, numbers: moved_on(table, first, numbers, [None], [None])),
    (lambda table, first, numbers: moved_on(table, first, numbers, LONG, LONG)),
    (lambda table, first, numbers: silenced(table, first, numbers, [], 0)),
    (lambda table, first, numbers: silenced(table, first, numbers, [[None]], None)),
    (lambda table, first, numbers: silenced(table, first, numbers, [LONG], 3)),
]


def no_rows(width):
    """What is no list of so many numbers."""
    found = [one for one in NO_LISTS] + [[I] * (width + 1), [I] * (width + 2), [[I] * width], [None] * (width + 1)]
    if width:
        found += [[], [I] * (width - 1)] + [[I] * (width - 1) + [one] for one in NO_NUMBERS]
        found += [[one] + [I] * (width - 1) for one in NO_NUMBERS]
    return found


class Shelves(Case):
    def test_broken_goes_first(self):
        for name, (count, leavings) in BREAKS.items():
            for first, numbers in ((count, []), (0, nums(*[1] * count)), (None, None), (-1, []), (1, None)):
                for told_by in SHELF_ASKS:
                    self.refused(told_by, (table_of(name), first, numbers), Broken, at=first_break(count, leavings)[:3])

    def test_then_the_first_way(self):
        for name in ("one way", "two by two", "place and push", "nothing left of six"):
            table = table_of(name)
            for wrong in (*NO_COUNTS, table.count + 1, table.count + 2):
                for numbers in ([], nums(0), None, [None], nums(*[1] * table.count)):
                    for told_by in SHELF_ASKS:
                        self.refused(told_by, (table, wrong, numbers), NoCount)

    def test_then_the_numbers(self):
        for name, first in (("one way", 1), ("one way", 0), ("two by two", 0), ("two by two", 1), ("place and push", 0), ("round", 3)):
            table = table_of(name)
            for wrong in no_rows(table.count - first):
                for told_by in SHELF_ASKS:
                    self.refused(told_by, (table, first, wrong), NoRow, place=None)

    def test_then_no_shelf(self):
        cases = [
            ("two by two", 1, nums(0, 0), (1, 2)),
            ("two by two", 0, nums(0, 1, 0), (0, 1)),
            ("two by two", 0, nums(0, 0, 1), (0, 2)),
            ("two by two", 0, nums(1, 0, 0), (1, 2)),
            ("two by two", 0, nums(1, 1, 1), (0, 1)),
            ("two by two, shifted", 0, nums(0, 0, 0), (0, 1)),
            ("two by two, shifted", 0, [(-1, 3), (2, 1), (1, 3)], (0, 2)),
            ("place and push", 0, nums(0, 0), (0, 1)),
            ("place and push", 0, nums(4, 5), (0, 1)),
            ("third and alone", 0, nums(0, 0), (0, 1)),
            ("third and alone", 0, [N, (-5, 21)], (0, 1)),
            ("three in a row", 0, nums(1, 1, 1), (0, 1)),
            ("two places, two pushes", 1, nums(0, 0, 0), (1, 3)),
            ("two places, two pushes", 0, nums(0, 0, 0, 0), (0, 2)),
            ("two letters, three deep", 1, nums(0, 0, 0, 1), (1, 2)),
            ("all of two by two", 1, nums(0, 0, 0), (1, 2)),
            ("all of two by two", 0, nums(1, 0, 0, 2), (1, 2)),
            ("all of two by two", 0, nums(1, 0, 1, 1), (0, 2)),
            ("grown by a turn", 0, nums(1, 0, 0, 5), (0, 3)),
        ]
        for name, first, numbers, pair in cases:
            for told_by in SHELF_ASKS:
                self.refused(told_by, (table_of(name), first, numbers), NoShelf, pair=pair)

    def test_no_shelf_by_all_small_numbers(self):
        seen = 0
        for name in ("two by two", "three in a row", "turns and moves", "third and alone", "round"):
            count, leavings = KEEPS[name]
            rows = {(i, j): row for i, j, row in leavings}
            for first in range(count + 1):
                for wholes in itertools.product((-1, 0, 1), repeat=count - first):
                    wrong = [
                        (i, j) for i, j in itertools.combinations(range(first, count), 2) if (i, j) in rows and (
                            any(one != N for one in rows[i, j][:first])
                            or sum(worth(one) * whole for one, whole in zip(rows[i, j][first:], (*wholes, 1)))
                        )
                    ]
                    if wrong:
                        seen += 1
                        self.refused(eaten, (table_of(name), first, nums(*wholes), []), NoShelf, pair=wrong[0])
                    else:
                        self.assertEqual(eaten(table_of(name), first, nums(*wholes), []), [])
        self.assertGreater(seen, 20)


SHELF = (Table(3, [(0, 1, nums(2, 0, 0, 0)), (0, 2, nums(0, -1, 0, 0)), (1, 2, nums(0, 0, 2, 0))]), 1, nums(4, 0))
SHELVES = [SHELF, (table_of("two by two"), 3, []), (table_of("two by two"), 2, nums(3)), (table_of("nothing left of two"), 1, nums(2))]


class Sums(Case):
    def test_what_is_no_sum(self):
        for total, place in no_sums():
            self.refused(eaten, (*SHELF, total), NoSum, place=place)
            self.refused(moved_on, (*SHELF, total, []), NoSum, place=place)
            self.refused(moved_on, (*SHELF, total, [((0,), I), None]), NoSum, place=place)
            self.refused(silenced, (*SHELF, [total], 0), NoSum, place=place)
            self.refused(silenced, (*SHELF, [[], LONG, total, [((0,), I), ((1,), I), None]], 3), NoSum, place=place)
        self.assertNotEqual(eaten(*SHELF, GOOD), [])

    def test_what_is_no_shelf_sum(self):
        for table, first, numbers in SHELVES:
            for wrong in wrong_terms(first):
                for ahead in ([], [((), I)], [((), I), ((0,), I)]):
                    if ahead and isinstance(wrong, tuple) and wrong and wrong[0] == ():
                        continue
                    self.refused(moved_on, (table, first, numbers, [], ahead + [wrong]), NoSum, place=len(ahead))
                    self.refused(moved_on, (table, first, numbers, LONG, ahead + [wrong, None]), NoSum, place=len(ahead))

    def test_shelf_sums_rise(self):
        table = table_of("two by two")
        for word in itertools.chain(*[itertools.product(range(3), repeat=long) for long in range(5)]):
            if sorted(word) != list(word):
                self.refused(moved_on, (table, 3, [], [], [(word, I)]), NoSum, place=0)
                self.refused(moved_on, (table, 3, [], [], [((), I), (word, I), None]), NoSum, place=1)
                self.refused(moved_on, (table, 3, [], LONG, [((0,), I), (word, I), ((), I)]), NoSum, place=1)
            else:
                self.assertEqual(moved_on(table, 3, [], [((), I)], [(word, I)]), [(word, I)])

    def test_shelf_sums_have_no_eaten_way(self):
        for way in (1, 2):
            for word in ((way,), (0, way), (0, 0, way), (way, way)):
                self.refused(moved_on, (*SHELF, [], [(word, I)]), NoSum, place=0)
                self.refused(moved_on, (*SHELF, LONG, [((), I), (word, I), ((0, 0, 0), N)]), NoSum, place=1)
        self.refused(moved_on, (table_of("one way"), 0, nums(1), [], [((), I), ((0,), I)]), NoSum, place=1)

    def test_order_of_shelf_sums(self):
        for shelf, place in (
            ([((), I), ((), I)], 1), ([((0,), I), ((), I)], 1), ([((0, 0), I), ((0,), I)], 1), ([((0,), I), ((0,), I), None], 1),
            ([((0,), I), None, ((0,), I)], 1), ([((0, 0), I), ((0, 1), I), ((0, 0), I)], 1), ([((), I), ((0,), I), ((), I)], 2),
        ):
            self.refused(moved_on, (*SHELF, LONG, shelf), NoSum, place=place)

    def test_the_sum_goes_ahead_of_the_shelf_sum(self):
        self.refused(moved_on, (*SHELF, [((), I), None], [None]), NoSum, place=1)
        self.refused(moved_on, (*SHELF, [((0,), I), ((1,), I), ((1,), I)], [((1,), I)]), NoSum, place=2)
        self.refused(moved_on, (*SHELF, LONG, [((0,), I), ((1,), I)]), NoSum, place=1)

    def test_then_too_long(self):
        for long, other in itertools.product(range(6), repeat=2):
            for table, first, numbers in SHELVES:
                handed = (table, first, numbers, [((0,) * long, I)], [((0,) * other, I)])
                if long + other > 5:
                    self.refused(moved_on, handed, TooLong)
                else:
                    moved_on(*handed)
        self.refused(moved_on, (*SHELF, [((), I), ((2, 2, 2), I)], [((), I), ((0, 0, 0), I)]), TooLong)
        self.refused(moved_on, (Table(2, []), 2, [], [((0, 0, 1), I), ((0, 1, 0), (-1, 1))], [((0, 0, 0), I)]), TooLong)


class SilencedOrder(Case):
    def test_most(self):
        for wrong in (*NO_COUNTS, 4, 5):
            for others in ([], [[None]], [LONG], [[((0,), I)]]):
                self.refused(silenced, (*SHELF, others, wrong), NoCount)
                self.refused(silenced, (table_of("two by two"), 3, [], others, wrong), NoCount)

    def test_then_the_first_that_is_no_sum(self):
        self.refused(silenced, (*SHELF, [LONG, [((), I), None], [None]], 3), NoSum, place=1)
        self.refused(silenced, (*SHELF, [[None], [((), I), None], LONG], 3), NoSum, place=0)
        self.refused(silenced, (*SHELF, [[], [((0,), I), ((1,), I), ((1,), I)]], 0), NoSum, place=2)

    def test_sums_may_have_eaten_ways_and_fall(self):
        self.ask(silenced, *SHELF, [[((2, 1), I)], [((2, 1, 0), I)]], 2)

    def test_then_too_long(self):
        # Where all ways are eaten, most counts as it stands, though no word has so many ways.
        shelves = SHELVES + [(table_of("one way"), 0, nums(1)), (table_of("nothing left of two"), 0, nums(1, 2))]
        for (table, first, numbers), long, most in itertools.product(shelves, range(6), range(4)):
            for others in ([[((0,) * long, I)]], [[], [((), I)], [((0,) * long, I)]], [[((0,) * long, I)], [((), I)]]):
                handed = (table, first, numbers, others, most)
                if long + most > 5:
                    self.refused(silenced, handed, TooLong)
                else:
                    silenced(*handed)


if __name__ == "__main__":
    unittest.main()
