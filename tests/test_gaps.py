"""laid_under, gaps, undone: held against the words of point 12, and what they refuse."""

import itertools
import unittest
from fractions import Fraction

from reckon import (
    BREAKS, I, KEEPS, N, NO_LISTS, NO_NUMBERS, Case, field_of, first_break, grids, is_plain_row, kept_faults, left_row,
    mixed_grid, mixed_leavings, nums, pair, rank, shape, sum_rows, table_of, times_row, unit_rows, worth,
)
from swaprest.errors import Broken, NoRow, NotGap
from swaprest.gaps import gaps, laid_under, undone
from swaprest.making import beside, loose, turned
from swaprest.tables import Table

ALL = {**KEEPS, **BREAKS}
LOOSE = [(k, 1) for k in range(1, 7)] + [(2, 2), (2, 3), (3, 2)]
# Where each gap is a plain one, and where not.
WIDE = {"solid": KEEPS["round"], "torn": (3, [(0, 1, nums(0, 1, 0, 0)), (0, 2, nums(0, 0, -1, 0))])}


def two_of(count):
    """All two ways i below j, by i, then j."""
    return list(itertools.combinations(range(count), 2))


def under(count, leavings, gap):
    """The leavings with the gap in the stead of the numbers alone."""
    rows = {(i, j): row for i, j, row in leavings}
    return [(i, j, rows.get((i, j), [N] * (count + 1))[:count] + [one]) for (i, j), one in zip(two_of(count), gap)]


def width_of(count):
    return count * (count - 1) // 2


def asked(count, leavings):
    """What the rule asks of a gap's numbers, a row for each three ways: read off gaps with one number."""
    columns = []
    units = unit_rows(count + 1)
    for unit in unit_rows(width_of(count)):
        laid = under(count, leavings, unit)
        columns.append([
            sum((worth(left_row(count, laid, units[a], left_row(count, laid, units[b], units[c]))[-1])
                 for a, b, c in ((i, j, k), (j, k, i), (k, i, j))), Fraction(0))
            for i, j, k in itertools.combinations(range(count), 3)
        ])
    return [[(one.numerator, one.denominator) for one in row] for row in zip(*columns)]


def samples():
    """Tables whose ways keep the rule."""
    found = [(name, *KEEPS[name]) for name in KEEPS] + [(name, *WIDE[name]) for name in WIDE]
    found.append(("alone only", *BREAKS["alone only"]))
    for letters, depth in LOOSE:
        table = loose(letters, depth)
        found.append((f"loose {letters} {depth}", table.count, [(i, j, list(row)) for i, j, row in table.leavings]))
    for name in ("two by two", "three in a row", "grown by a turn"):
        count = KEEPS[name][0]
        table = turned(table_of(name), mixed_grid(count, count + 1, 3))
        found.append((name + ", turned", count, [(i, j, list(row)) for i, j, row in table.leavings]))
    return found


class LaidUnder(Case):
    def test_written_out(self):
        told = self.ask(laid_under, table_of("two by two, shifted"), nums(5, 0, -7))
        wanted = [(0, 1, nums(0, 2, 0, 5)), (0, 2, nums(0, 0, -2, 0)), (1, 2, nums(1, 0, 0, -7))]
        self.assertEqual(told.leavings, field_of(wanted))
        told = self.ask(laid_under, table_of("place and push"), [N])
        self.assertEqual((told.count, told.leavings), (2, ()))
        told = self.ask(laid_under, Table(3, []), nums(1, 2, 3))
        self.assertEqual(told.leavings, field_of([(i, j, [N, N, N, (k, 1)]) for k, (i, j) in enumerate(two_of(3), 1)]))

    def test_the_rest_stays(self):
        for salt, (count, leavings) in enumerate(ALL.values()):
            gap = (mixed_grid(1, 15, salt)[0])[:width_of(count)]
            told = self.ask(laid_under, Table(count, leavings), gap)
            self.assertEqual(told.__class__, Table)
            self.assertEqual(told.count, count)
            self.assertEqual(shape(told.leavings), shape(field_of(under(count, leavings, gap))))
            none = self.ask(laid_under, Table(count, leavings), [N] * width_of(count))
            self.assertTrue(all(row[-1] == N for _, _, row in none.leavings))

    def test_one_way(self):
        told = self.ask(laid_under, Table(1, []), [])
        self.assertEqual((told.count, told.leavings), (1, ()))

    def test_the_gap_changed_behind_the_call(self):
        gap = nums(1, 2, 3)
        told = laid_under(Table(3, []), gap)
        gap.clear()
        self.assertEqual(len(told.leavings), 3)

    def test_no_gap(self):
        for count, leavings in ALL.values():
            width = width_of(count)
            for wrong in ([I] * (width + 1), [I] * (width + 2), [I] * 60, (I,) * width, [None] * (width or 1), None, "", 3):
                self.refused(laid_under, (Table(count, leavings), wrong), NoRow, place=None)
            for wrong in NO_LISTS:
                self.refused(laid_under, (Table(count, leavings), wrong), NoRow, place=None)
            if width:
                self.refused(laid_under, (Table(count, leavings), [I] * (width - 1)), NoRow, place=None)
                for wrong in NO_NUMBERS:
                    self.refused(laid_under, (Table(count, leavings), [wrong] + [N] * (width - 1)), NoRow, place=None)
                    self.refused(laid_under, (Table(count, leavings), [N] * (width - 1) + [wrong]), NoRow, place=None)


class Gaps(Case):
    def test_written_out(self):
        self.assertEqual(self.ask(gaps, Table(1, [])), [])
        self.assertEqual(self.ask(gaps, Table(2, [])), [[I]])
        self.assertEqual(self.ask(gaps, table_of("turns and moves")), [[I]])
        self.assertEqual(self.ask(gaps, table_of("two by two")), unit_rows(3))
        self.assertEqual(self.ask(gaps, Table(*WIDE["torn"])), unit_rows(3))
        self.assertEqual(self.ask(gaps, table_of("alone only")), [nums(1, 0, 0), nums(0, 1, 0)])
        self.assertEqual(self.ask(gaps, loose(6, 1)), unit_rows(15))

    def test_the_room_of_all(self):
        for name, count, leavings in samples():
            told = self.ask(gaps, Table(count, leavings))
            width = width_of(count)
            self.assertEqual(kept_faults(told, width), "", name)
            if width:
                tests = asked(count, leavings)
                self.assertEqual(len(told), width - rank(tests), name)
                self.assertTrue(all(pair(gap, test) == 0 for gap in told for test in tests), name)

    def test_each_told_gap_laid_under(self):
        for name, count, leavings in samples():
            table = Table(count, leavings)
            told = gaps(table)
            for gap in told:
                self.assertIsNone(laid_under(table, gap).breaks(), name)
            if told:
                mixed = sum_rows(*[times_row((k + 2, 3), gap) for k, gap in enumerate(told)])
                self.assertIsNone(laid_under(table, mixed).breaks(), name)
                self.assertIsNone(first_break(count, under(count, leavings, mixed)))

    def test_gaps_that_are_not_told_of(self):
        seen = 0
        for name, count, leavings in samples():
            table = Table(count, leavings)
            told = gaps(table)
            for salt, unit in enumerate(unit_rows(width_of(count))):
                for gap in (unit, times_row((-2, 3), mixed_grid(1, width_of(count), salt)[0])):
                    apart = rank(told + [gap]) > len(told)
                    self.assertEqual(laid_under(table, gap).breaks() is not None, apart, name)
                    seen += apart
        self.assertGreater(seen, 20)

    def test_its_own_numbers_alone_change_nothing(self):
        for name, count, leavings in samples():
            laid = Table(count, under(count, leavings, mixed_grid(1, 15, 4)[0][:width_of(count)]))
            self.assertEqual(gaps(laid), gaps(Table(count, leavings)))

    def test_broken(self):
        for name, (count, leavings) in BREAKS.items():
            bare = first_break(count, under(count, leavings, [N] * width_of(count)))
            if bare is not None:
                self.refused(gaps, (Table(count, leavings),), Broken, at=bare[:3])
        self.refused(gaps, (table_of("the last three"),), Broken, at=(1, 2, 3))
        self.refused(gaps, (table_of("late"),), Broken, at=(1, 4, 5))
        for count in (3, 4, 5, 6):
            leavings = mixed_leavings(count, count)
            at = first_break(count, under(count, leavings, [N] * width_of(count)))[:3]
            self.refused(gaps, (Table(count, leavings),), Broken, at=at)
            self.refused(undone, (Table(count, leavings), [N] * width_of(count)), Broken, at=at)

    def test_a_break_by_numbers_alone_is_none(self):
        table = table_of("alone only")
        self.assertIsNotNone(table.breaks())
        self.assertEqual(len(gaps(table)), 2)
        self.assertEqual(undone(table, nums(0, 0, 0))[0], "plain")
        # Here the numbers alone break the rule at earlier ways than the rest does.
        early = [(0, 1, nums(0, 1, 0, 0, 0)), (0, 2, nums(0, 0, 1, 0, 0)), (1, 2, nums(0, 0, 0, 0, 1))]
        early += [(1, 3, nums(0, 0, 0, 1, 0)), (2, 3, nums(0, 1, 0, 0, 0))]
        bare = first_break(4, under(4, early, [N] * 6))
        self.assertNotEqual(bare[:3], Table(4, early).breaks()[:3])
        self.refused(gaps, (Table(4, early),), Broken, at=bare[:3])


class Undone(Case):
    def check(self, table, gap):
        """Hold the answer against point 12."""
        told = self.ask(undone, table, gap)
        self.assertIs(told.__class__, tuple)
        self.assertEqual(len(told), 2)
        count, pairs, units = table.count, two_of(table.count), unit_rows(table.count + 1)
        lefts = [table.left(units[i], units[j]) for i, j in pairs]
        if told[0] == "plain":
            self.assertTrue(is_plain_row(told[1], count))
            self.assertEqual([worth(one) for one in gap], [pair(told[1], left[:count]) for left in lefts])
            self.check_turned(table, gap, told[1])
        else:
            self.assertEqual(told[0], "true")
            self.assertTrue(is_plain_row(told[1], len(pairs)))
            for way in range(count):
                self.assertEqual(pair(told[1], [left[way] for left in lefts]), 0)
            self.assertEqual(pair(told[1], gap), 1)
        return told[0]

    def check_turned(self, table, gap, plain):
        """The sentence in brackets."""
        units = unit_rows(table.count + 1)[:table.count]
        rows = [unit[:-1] + [(-top, bottom)] for unit, (top, bottom) in zip(units, plain)]
        without = laid_under(table, [N] * len(gap))
        self.assertEqual(turned(without, rows).leavings, laid_under(table, gap).leavings)

    def test_written_out(self):
        self.assertEqual(self.ask(undone, table_of("two by two"), nums(1, 2, 3)), ("plain", [(3, 1), (1, 2), (-1, 1)]))
        self.assertEqual(self.ask(undone, table_of("place and push"), [(2, 3)]), ("true", [(3, 2)]))
        self.assertEqual(self.check(table_of("turns and moves"), [(2, 3)]), "plain")
        self.assertEqual(self.check(loose(2, 2), nums(5, 0, 0)), "plain")
        self.assertEqual(self.check(loose(2, 2), nums(0, 1, 0)), "true")
        self.assertEqual(self.check(loose(2, 2), nums(3, 0, -2)), "true")
        self.assertEqual(self.check(Table(*WIDE["torn"]), nums(1, 1, 0)), "plain")
        self.assertEqual(self.check(Table(*WIDE["torn"]), nums(1, 1, 1)), "true")

    def test_one_way(self):
        told = self.ask(undone, Table(1, []), [])
        self.assertEqual(told[0], "plain")
        self.assertTrue(is_plain_row(told[1], 1))

    def test_every_told_gap(self):
        counts = {"plain": 0, "true": 0}
        for name, count, leavings in samples():
            table = Table(count, leavings)
            told = gaps(table)
            mixed = [sum_rows(*[times_row((k + 1, 2), gap) for k, gap in enumerate(told)])] if told else []
            for gap in told + mixed + [[N] * width_of(count)]:
                counts[self.check(table, gap)] += 1
            # How many are plain: as many as the things that are left make.
            units = unit_rows(count + 1)
            plain = rank([table.left(units[i], units[j])[:count] for i, j in two_of(count)])
            rows = [[table.left(units[i], units[j])[way] for i, j in two_of(count)] for way in range(count)]
            self.assertEqual(rank(rows), plain)
            for gap in told:
                self.assertEqual(undone(table, gap)[0], "plain" if rank(rows + [gap]) == plain else "true", name)
        self.assertGreater(min(counts.values()), 20)

    def test_made_of_numbers_for_the_ways(self):
        for salt, (name, count, leavings) in enumerate(samples()):
            table, units = Table(count, leavings), unit_rows(count + 1)
            plain = mixed_grid(1, count, salt)[0]
            gap = [pair(plain, table.left(units[i], units[j])[:count]) for i, j in two_of(count)]
            self.assertEqual(self.check(table, [(one.numerator, one.denominator) for one in gap]), "plain", name)

    def test_all_small_gaps(self):
        for name in ("three in a row", "two by two", "alone only"):
            table = table_of(name)
            for (gap,) in grids(1, 3, (-1, 0, 2)):
                if laid_under(table, gap).breaks() is None:
                    self.check(table, gap)
                else:
                    self.refused(undone, (table, gap), NotGap, at=(0, 1, 2))

    def test_its_own_numbers_alone_change_nothing(self):
        bare, own = table_of("two by two"), table_of("two by two, shifted")
        for (gap,) in grids(1, 3, (-1, 0, 2)):
            self.assertEqual(undone(own, gap), undone(bare, gap))
        self.assertEqual(undone(table_of("place and push"), [N])[0], "plain")

    def test_the_solid_one_has_no_true_gap(self):
        for name in ("two by two", "round"):
            for gap in unit_rows(3):
                self.assertEqual(self.check(table_of(name), gap), "plain")
        six = beside(table_of("two by two"), table_of("round"))
        self.assertTrue(all(self.check(six, gap) == "plain" for gap in gaps(six)))


class UndoneRefusals(Case):
    def test_broken_goes_first(self):
        for name in ("in a ring", "thirds", "the last three", "late"):
            count, leavings = BREAKS[name]
            at = first_break(count, under(count, leavings, [N] * width_of(count)))[:3]
            width = width_of(count)
            for gap in (None, [], [N] * width, [I] * width, [I] * (width + 1), "x", [True] * width):
                self.refused(undone, (Table(count, leavings), gap), Broken, at=at)

    def test_then_what_is_no_row_of_the_width(self):
        for name in ("two by two", "alone only", "two letters, three deep", "one way"):
            table = table_of(name)
            width = width_of(table.count)
            for wrong in ([I] * (width + 1), [I] * 60, (I,) * width, None, "", 0, [None] * (width or 1)):
                self.refused(undone, (table, wrong), NoRow, place=None)
            for wrong in NO_LISTS:
                self.refused(undone, (table, wrong), NoRow, place=None)
            for wrong in NO_NUMBERS if width else ():
                self.refused(undone, (table, [I] * (width - 1) + [wrong]), NoRow, place=None)
                self.refused(undone, (table, [wrong] + [I] * (width - 1)), NoRow, place=None)

    def test_then_what_is_no_gap(self):
        self.refused(undone, (table_of("alone only"), nums(0, 0, 1)), NotGap, at=(0, 1, 2))
        self.refused(undone, (table_of("alone only"), nums(4, 5, 7)), NotGap, at=(0, 1, 2))
        met = {}
        for name, count, leavings in samples():
            for unit in unit_rows(width_of(count)):
                found = first_break(count, under(count, leavings, unit))
                if found is not None:
                    self.refused(undone, (Table(count, leavings), unit), NotGap, at=found[:3])
                    met[found[:3]] = True
        self.assertGreater(len(met), 4)

    def test_a_refusal_changes_nothing(self):
        table = table_of("two by two")
        self.refused(undone, (table, None), NoRow, place=None)
        self.assertEqual(undone(table, nums(1, 2, 3)), ("plain", [(3, 1), (1, 2), (-1, 1)]))


if __name__ == "__main__":
    unittest.main()
