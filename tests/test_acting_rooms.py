"""still_room, kept_by, room_beside: held against rows moved by each square, and against the words of point 25."""

import itertools
import unittest
from fractions import Fraction

from reckon import (
    I, KEEPS, N, SPIN, STEP, TURN, Case, after_plain, all_actings, blank, fault_plain, kept_faults, mixed_grid, moved_plain,
    nums, rank, seen_from, side_by_side, still, sum_squares, swap_squares, table_of, unit_rows, whole_square, worth,
)
from swaprest.acting import kept_by, room_beside, still_room
from swaprest.rows import kept, noughts


def lies_in(row, rows):
    """Whether a row is one of the room of rows."""
    return rank(rows + [row]) == rank(rows)


def is_kept(squares, rows):
    """Whether each square moves each row of the room into it."""
    return all(lies_in(moved_plain(square, row), rows) for square in squares for row in rows)


def more_actings():
    """Besides the others, some in which rooms have none beside them."""
    found = all_actings()
    found += [("one way", [whole_square((0, 1, 0), (0, 0, 0), (0, 0, 2))]), ("one way", [whole_square((3, 1, 0, 0), (0, 3, 0, 0), (0, 0, 3, 0), (0, 0, 0, 1))])]
    found += [("one way", seen_from([whole_square((0, 1, 0, 0), (0, 0, 0, 0), (0, 0, 0, 1), (0, 0, 0, 0))], *TURN[4]))]
    found += [("nothing left of two", [STEP, blank(2)]), ("nothing left of two", [blank(2), STEP])]
    found += [("nothing left of two", [blank(4), side_by_side([STEP], [still(2)])[0]])]
    found += [("turns and moves", side_by_side([whole_square((1, 0), (0, 0)), STEP], [[[(1, 1)]], [[N]]]))]
    found += [("three in a row", [still(3), still(3), blank(3)]), ("grown by a turn", [whole_square((5,))] + [blank(1)] * 3)]
    return found


class Stillness(Case):
    def test_written_out(self):
        table = table_of("two by two")
        self.assertEqual(self.ask(still_room, table, SPIN[1]), [nums(1)])
        self.assertEqual(self.ask(still_room, table, SPIN[3]), [])
        self.assertEqual(self.ask(still_room, table, side_by_side(SPIN[1], SPIN[2])), [nums(1, 0, 0)])
        self.assertEqual(self.ask(still_room, table, side_by_side(SPIN[1], SPIN[1])), unit_rows(2))
        self.assertEqual(self.ask(still_room, table_of("nothing left of two"), [STEP, STEP]), [nums(1, 0)])

    def test_against_rows(self):
        seen = set()
        for name, squares in more_actings():
            self.assertIsNone(fault_plain(*KEEPS[name], squares))
            side = len(squares[0])
            told = self.ask(still_room, table_of(name), squares)
            self.assertEqual(kept_faults(told, side), "")
            for row in told:
                for square in squares:
                    self.assertEqual(moved_plain(square, row), [N] * side)
            self.assertEqual(len(told), side - rank([row for square in squares for row in square]))
            seen.add(len(told))
        self.assertTrue({0, 1, 2} <= seen)


def lists_of_rows(side):
    """Some lists of rows of a width."""
    found = [[], [[N] * side], unit_rows(side), [[I] * side], mixed_grid(1, side, 8), mixed_grid(2, side, 9), mixed_grid(5, side, 1)]
    found += [[row] for row in unit_rows(side)] + [[row, row] for row in unit_rows(side)[-1:]]
    found += [[one, other] for one, other in itertools.combinations(unit_rows(side), 2)]
    return found


class KeptBy(Case):
    def test_written_out(self):
        table = table_of("two by two")
        self.assertEqual(self.ask(kept_by, table, SPIN[3], [nums(0, 5, 0)]), unit_rows(3))
        self.assertEqual(self.ask(kept_by, table, side_by_side(SPIN[1], SPIN[2]), [nums(0, 1, 1)]), unit_rows(3)[1:])
        self.assertEqual(self.ask(kept_by, table_of("one way"), [STEP], [nums(3, 0)]), [nums(1, 0)])
        self.assertEqual(self.ask(kept_by, table_of("one way"), [STEP], [nums(0, 1)]), unit_rows(2))
        chain = whole_square((0, 1, 0, 0), (0, 0, 1, 0), (0, 0, 0, 1), (0, 0, 0, 0))
        for many in range(5):
            self.assertEqual(self.ask(kept_by, table_of("one way"), [chain], unit_rows(4)[:many][-1:]), unit_rows(4)[:many])

    def test_against_rows_moved_by_words(self):
        for name, squares in more_actings():
            side = len(squares[0])
            for rows in lists_of_rows(side):
                told = self.ask(kept_by, table_of(name), squares, rows)
                self.assertEqual(kept_faults(told, side), "")
                self.assertTrue(all(lies_in(row, told) for row in rows))
                self.assertTrue(is_kept(squares, told))
                # The least room has what words of less ways than the side move the rows to, and no more.
                reached = [row for row in rows]
                fresh = reached
                for _ in range(side - 1):
                    fresh = [moved_plain(square, row) for square in squares for row in fresh]
                    fresh = kept(fresh, side)
                    reached = reached + fresh
                self.assertEqual(len(told), rank(reached))
                self.assertTrue(all(lies_in(row, told) for row in reached))


def kept_rooms(squares):
    """Some kept rooms of an acting, by rows."""
    side = len(squares[0])
    found = []
    for rows in lists_of_rows(side):
        room = rows
        while not is_kept(squares, room):
            room = kept(room + [moved_plain(square, row) for square in squares for row in room], side)
        found.append(room)
    return found


class RoomBeside(Case):
    def check(self, name, squares, rows):
        side, count = len(squares[0]), len(squares)
        told = self.ask(room_beside, table_of(name), squares, rows)
        self.assertIs(told.__class__, tuple)
        if told[0] == "beside":
            self.assertEqual(len(told), 2)
            self.assertEqual(kept_faults(told[1], side), "")
            self.assertTrue(is_kept(squares, told[1]))
            self.assertEqual(rank(rows) + len(told[1]), side)
            self.assertEqual(rank(rows + told[1]), side)
            return told
        word, start, tests = told
        self.assertEqual(word, "none")
        for square in [start] + tests:
            self.assertTrue(len(square) == side and all(len(row) == side for row in square))
        self.assertEqual(len(tests), count)
        for row in rows:
            self.assertEqual(moved_plain(start, row), row)
        for row in unit_rows(side):
            self.assertTrue(lies_in(moved_plain(start, row), rows))
        self.assertEqual(self.worth_of(squares, tests, start), 1)
        for row, test in itertools.product(rows, noughts(rows, side)):
            square = [[(worth(one) * worth(other)).as_integer_ratio() for other in test] for one in row]
            self.assertEqual([moved_plain(square, each) for each in rows], [[N] * side for _ in rows])
            self.assertEqual(self.worth_of(squares, tests, square), 0)
        return told

    def worth_of(self, squares, tests, square):
        total = Fraction(0)
        for mine, test in zip(squares, tests):
            found = after_plain(test, swap_squares(square, mine))
            total += sum(worth(found[k][k]) for k in range(len(square)))
        return total

    def test_written_out(self):
        self.assertEqual(self.ask(room_beside, table_of("one way"), [whole_square((1, 1), (0, 2))], [nums(1, 0)]), ("beside", [nums(1, 1)]))
        self.assertEqual(self.check("one way", [STEP], [nums(1, 0)])[0], "none")
        self.assertEqual(self.check("nothing left of two", [blank(2), STEP], [nums(7, 0)])[0], "none")
        self.assertEqual(self.check("turns and moves", [whole_square((1, 0), (0, 0)), STEP], [nums(1, 0)])[0], "none")
        squares = side_by_side(SPIN[1], SPIN[3])
        self.assertEqual(self.check("two by two", squares, [nums(1, 0, 0, 0)]), ("beside", unit_rows(4)[1:]))
        self.assertEqual(self.check("two by two", squares, unit_rows(4)[1:]), ("beside", [nums(1, 0, 0, 0)]))

    def test_nothing_and_all(self):
        for name, squares in more_actings():
            side = len(squares[0])
            for rows in ([], [[N] * side], [[N] * side] * 3):
                self.assertEqual(self.ask(room_beside, table_of(name), squares, rows), ("beside", unit_rows(side)))
            self.assertEqual(self.ask(room_beside, table_of(name), squares, unit_rows(side)[::-1]), ("beside", []))

    def test_both_answers(self):
        seen = {"beside": 0, "none": 0}
        for name, squares in more_actings():
            side = len(squares[0])
            for rows in kept_rooms(squares):
                told = self.check(name, squares, rows)
                seen[told[0]] += 0 < rank(rows) < side
        self.assertGreater(min(seen.values()), 20)

    def test_of_one_square_what_chains_tell(self):
        # By one square alone, the first rows of a chain have a room beside them just where none of it goes on.
        chain = whole_square((0, 1, 0, 0), (0, 0, 1, 0), (0, 0, 0, 0), (0, 0, 0, 0))
        for rows, word in (
            ([nums(1, 0, 0, 0)], "none"), (unit_rows(4)[:2], "none"), (unit_rows(4)[:3], "beside"), ([nums(0, 0, 0, 1)], "beside"),
            ([nums(1, 0, 0, 1)], "beside"), ([nums(1, 0, 0, 0), nums(0, 0, 0, 1)], "none"), ([nums(0, 1, 0, 1), nums(1, 0, 0, 0)], "none"),
            ([nums(2, 0, 0, 0), nums(0, 3, 0, 0), nums(0, 0, 0, 1)], "none"), ([nums(0, 0, 1, 5), nums(0, 1, 0, 0), nums(1, 0, 0, 0)], "beside"),
        ):
            self.assertEqual(self.check("one way", [chain], rows)[0], word, rows)
            self.assertEqual(self.check("one way", seen_from([chain], *TURN[4]), [moved_plain(TURN[4][0], row) for row in rows])[0], word)

    def test_always_beside_where_spins_turn(self):
        for name, squares in all_actings():
            if name.startswith("two by two"):
                for rows in kept_rooms(squares):
                    self.assertEqual(self.check(name, squares, rows)[0], "beside")

    def test_six_ways_of_side_four(self):
        chain = whole_square((0, 1, 0, 0), (0, 0, 1, 0), (0, 0, 0, 1), (0, 0, 0, 0))
        squares = [sum_squares(4, (k - 3, after_plain(chain, chain)), (k * k, still(4))) for k in range(6)]
        seen = {self.check("nothing left of six", squares, rows)[0] for rows in kept_rooms(squares)}
        self.assertEqual(seen, {"beside", "none"})


if __name__ == "__main__":
    unittest.main()
