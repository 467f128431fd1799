"""What kept, summed, noughts and common refuse: the class, its field, and that all stays as it was."""

import unittest

from reckon import I, N, NO_LISTS, NO_NUMBERS, nums
from swaprest.errors import NoRow, SwapError
from swaprest.rows import common, kept, noughts, summed

GOOD = (nums(1, 2, 3), nums(0, 0, 0), [(1, 2), (-3, 4), N], nums(2, 4, 6))
WIDTH = 3


def good(many):
    """So many right rows."""
    return [list(GOOD[k]) for k in range(many)]


def wrong_rows():
    """All that is no row of the width: too short, too long, no list, with what is no number in each place."""
    found = [[], [I], nums(1, 2), nums(1, 2, 3, 4), nums(0, 0, 0, 0, 0), [N] * 60, [[], [], []], [[I, I, I]]]
    found.extend(NO_LISTS)
    for at in range(WIDTH):
        for wrong in NO_NUMBERS:
            row = nums(1, 2, 3)
            row[at] = wrong
            found.append(row)
    found.append([True, (1, 0), None])
    return found


def with_wrong(many, *places_and_rows):
    """So many right rows, but for the wrong ones at their places."""
    rows = good(many)
    for place, row in places_and_rows:
        rows[place] = row
    return rows


class Refusals(unittest.TestCase):
    def refused(self, place, told_by, *handed):
        before = repr(handed)
        inner = [list(one) if isinstance(one, list) else None for one in handed]
        for _ in range(2):
            with self.assertRaises(SwapError, msg=before) as caught:
                told_by(*handed)
            self.assertIs(caught.exception.__class__, NoRow)
            self.assertEqual(repr(caught.exception.place), repr(place), before)
        self.assertEqual(repr(handed), before)
        for one, held in zip(handed, inner):
            if held is not None:
                self.assertTrue(all(x is y for x, y in zip(one, held)))

    def test_one_wrong_row_at_each_place(self):
        for wrong in wrong_rows():
            for many, place in ((1, 0), (2, 0), (2, 1), (4, 0), (4, 1), (4, 2), (4, 3)):
                rows = with_wrong(many, (place, wrong))
                self.refused(place, kept, rows, WIDTH)
                self.refused(place, noughts, rows, WIDTH)
                self.refused(place, common, rows, good(2), WIDTH)
                self.refused(place, common, rows, [], WIDTH)
                self.refused(place, common, good(2), rows, WIDTH)
                self.refused(place, common, [], rows, WIDTH)
                self.refused(place, summed, rows, nums(1, 2, 3))
                self.refused(place, summed, rows, nums(0, 0, 0))

    def test_two_wrong_rows(self):
        for first, second in ((None, []), ([], None), (nums(1, 2), [I, None, I]), ([I, I, True], nums(1, 2, 3, 4))):
            for low, high in ((0, 1), (0, 3), (1, 2), (2, 3)):
                rows = with_wrong(4, (low, first), (high, second))
                self.refused(low, kept, rows, WIDTH)
                self.refused(low, noughts, rows, WIDTH)
                self.refused(low, common, rows, good(1), WIDTH)
                self.refused(low, common, good(1), rows, WIDTH)
                self.refused(low, summed, rows, nums(5, 6, 7))

    def test_of_common_the_first_list_goes_first(self):
        for wrong in (None, [], nums(1, 2), [I, I, (2, 4)], (I, I, I)):
            for mine in range(4):
                for its in range(4):
                    self.refused(mine, common, with_wrong(4, (mine, wrong)), with_wrong(4, (its, "x")), WIDTH)

    def test_of_summed_the_row_goes_first(self):
        for wrong in (*NO_LISTS, *[[one] for one in NO_NUMBERS], [I, None], [(2, 4), I, I], [I, I, True]):
            self.refused(None, summed, [], wrong)
            self.refused(None, summed, good(2), wrong)
            self.refused(None, summed, [None, []], wrong)
            self.refused(None, summed, [[I], [I]], wrong)

    def test_of_summed_a_wrong_number_at_each_place_of_the_row(self):
        for at in range(WIDTH):
            for wrong in NO_NUMBERS:
                row = nums(1, 2, 3)
                row[at] = wrong
                self.refused(None, summed, good(3), row)
                self.refused(None, summed, with_wrong(3, (0, None)), row)

    def test_of_summed_the_row_tells_the_width(self):
        self.refused(0, summed, good(3), nums(1, 2))
        self.refused(0, summed, good(3), nums(1, 2, 3, 4))
        self.refused(0, summed, good(3), [])
        self.refused(1, summed, [nums(1, 2), nums(1, 2, 3)], nums(0, 1))
        self.refused(2, summed, [[], [], nums(0)], [])
        self.refused(1, summed, [nums(1), []], nums(1))

    def test_width_nought(self):
        for wrong in (*NO_LISTS, [I], [N], [None], [[]], [0], nums(1, 2)):
            for place in range(3):
                rows = [[], [], []]
                rows[place] = wrong
                self.refused(place, kept, rows, 0)
                self.refused(place, noughts, rows, 0)
                self.refused(place, common, rows, [[]], 0)
                self.refused(place, common, [[]], rows, 0)
                self.refused(place, summed, rows, [])

    def test_other_widths(self):
        for width in (1, 2, 59, 60):
            right = [I] * width
            for wrong in ([I] * (width - 1), [I] * (width + 1), tuple(right), [I] * (width - 1) + [None]):
                self.refused(1, kept, [right, wrong], width)
                self.refused(1, noughts, [right, wrong, wrong], width)
                self.refused(0, common, [right], [wrong], width)
                self.refused(0, summed, [wrong], right)

    def test_at_the_last_of_sixty(self):
        rows = [nums(1, 2, 3) for _ in range(60)]
        rows[59] = nums(1, 2)
        self.refused(59, kept, rows, WIDTH)
        self.refused(59, noughts, rows, WIDTH)
        self.refused(59, common, rows, rows, WIDTH)
        self.refused(59, common, [], rows, WIDTH)
        self.refused(59, summed, rows, nums(1, 2, 3))

    def test_a_refusal_changes_no_later_answer(self):
        wanted = kept(good(4), WIDTH)
        self.refused(1, kept, with_wrong(4, (1, None)), WIDTH)
        self.assertEqual(kept(good(4), WIDTH), wanted)


if __name__ == "__main__":
    unittest.main()
