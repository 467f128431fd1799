"""walked and steps_up: held against single steps by the words of point 13, and what walked refuses."""

import itertools
import unittest
from fractions import Fraction

from reckon import (
    BREAKS, I, KEEPS, N, Case, falls, is_plain_sum, is_rising, mixed_leavings, mixed_sum, nums, shape, spoil, step_done,
    sum_of, table_of, terms_of, wrong_terms,
)
from swaprest.errors import NoPlace, NoSum
from swaprest.tables import Table
from swaprest.words import steps_up, walked

ALL = {**KEEPS, **BREAKS}


def all_words(count, long):
    return itertools.product(range(count), repeat=long)


class Walked(Case):
    def test_written_out(self):
        table = table_of("two by two, shifted")
        self.assertEqual(self.ask(walked, table, [((2, 1), I)], [((2, 1), 0)]), [
            ((), (-1, 3)), ((0,), (-1, 1)), ((1, 2), I),
        ])
        self.assertEqual(self.ask(walked, table, [((1, 0, 1), (3, 2))], [((1, 0, 1), 0)]), [
            ((1,), (6, 1)), ((1, 1), (-3, 1)), ((0, 1, 1), (3, 2)),
        ])
        self.assertEqual(self.ask(walked, table, [((2, 0, 0), I)], [((2, 0, 0), 0)]), [
            ((0,), (-1, 1)), ((2, 0), (2, 1)), ((0, 2, 0), I),
        ])

    def test_a_step_at_each_place(self):
        for count, leavings in (KEEPS["two by two, shifted"], KEEPS["third and alone"], BREAKS["thirds"]):
            table = Table(count, leavings)
            for long in range(2, 5):
                for word in all_words(count, long):
                    for place in falls(word):
                        told = self.ask(walked, table, [(word, (-2, 3))], [(word, place)])
                        wanted = sum_of(step_done(leavings, {word: Fraction(-2, 3)}, word, place))
                        self.assertEqual(shape(told), shape(wanted))

    def test_words_of_five_ways(self):
        for count in (2, 3, 4, 5, 6):
            leavings = mixed_leavings(count, count + 4)
            table = Table(count, leavings)
            for word in itertools.islice(all_words(count, 5), 7, None, 1 + count ** 5 // 60):
                for place in falls(word):
                    told = self.ask(walked, table, [(word, I)], [(word, place)])
                    self.assertEqual(told, sum_of(step_done(leavings, {word: Fraction(1)}, word, place)))

    def test_many_steps(self):
        for salt, (name, (count, leavings)) in enumerate(ALL.items()):
            total = mixed_sum(count, 4, 6, salt)
            terms, steps = terms_of(total), []
            for turn in range(40):
                ready = [(word, place) for word in sorted(terms) for place in falls(word)]
                if not ready:
                    break
                word, place = ready[(turn * 7 + salt) % len(ready)]
                steps.append((word, place))
                terms = step_done(leavings, terms, word, place)
                if turn % 5 == 0:
                    self.assertEqual(walked(Table(count, leavings), total, steps), sum_of(terms), name)
            told = self.ask(walked, Table(count, leavings), total, steps)
            self.assertTrue(is_plain_sum(told, count))
            self.assertEqual(told, sum_of(terms), name)

    def test_like_words_are_added_up(self):
        table = table_of("two by two, shifted")
        total = [((), (1, 3)), ((0,), I), ((1, 2), (2, 1)), ((2, 1), I)]
        self.assertEqual(self.ask(walked, table, total, [((2, 1), 0)]), [((1, 2), (3, 1))])
        total = [((), (1, 6)), ((0,), (3, 1)), ((1, 2), (-1, 2)), ((2, 1), I)]
        self.assertEqual(self.ask(walked, table, total, [((2, 1), 0)]), [
            ((), (-1, 6)), ((0,), (2, 1)), ((1, 2), (1, 2)),
        ])

    def test_what_comes_to_nought_is_left_out(self):
        table = table_of("place and push")
        self.assertEqual(self.ask(walked, table, [((), I), ((1, 0), I)], [((1, 0), 0)]), [((0, 1), I)])
        self.assertEqual(self.ask(walked, table, [((0, 1), (-1, 1)), ((1, 0), I)], [((1, 0), 0)]), [((), (-1, 1))])
        total = [((), I), ((0, 1), (-1, 1)), ((1, 0), I)]
        self.assertEqual(self.ask(walked, table, total, [((1, 0), 0)]), [])
        bare = table_of("turns and moves")
        self.assertEqual(self.ask(walked, bare, [((1,), I), ((1, 0), I)], [((1, 0), 0)]), [((0, 1), I)])

    def test_two_leavings_on_one_word(self):
        # What is left of 2 and 0 has the way 1, so that both new words may be like ones that stand there.
        table = table_of("round")
        self.assertEqual(self.ask(walked, table, [((1, 1), (-1, 1)), ((2, 0, 1), I)], [((2, 0, 1), 0)]), [((0, 2, 1), I)])

    def test_no_steps(self):
        for total in ([], [((), I)], [((1, 0), (2, 3))], mixed_sum(3, 5, 10, 3)):
            told = self.ask(walked, table_of("thirds"), total, [])
            self.assertEqual(told, total)
            self.assertIsNot(told, total)

    def test_a_word_may_come_again(self):
        table = table_of("two by two")
        steps = [((2, 1), 0), ((2, 1, 0), 1), ((2, 0, 1), 0), ((0, 2, 1), 1)]
        total = [((2, 1), I), ((2, 1, 0), I)]
        terms = terms_of(total)
        for word, place in steps:
            terms = step_done(KEEPS["two by two"][1], terms, word, place)
        self.assertEqual(self.ask(walked, table, total, steps), sum_of(terms))

    def test_what_was_told_is_handed_in_again(self):
        table = Table(2, [(0, 1, [(10 ** 999 + 7, 3), (1, 10 ** 999 + 9), (-5, 7)])])
        told = walked(table, [((1, 1, 0, 0, 0), (10 ** 999 + 1, 2))], [((1, 1, 0, 0, 0), 1)])
        again = self.ask(walked, table, told, [((1, 0, 1, 0, 0), 0)])
        leavings = [(i, j, list(row)) for i, j, row in table.leavings]
        self.assertEqual(again, sum_of(step_done(leavings, terms_of(told), (1, 0, 1, 0, 0), 0)))

    def test_lists_changed_behind_the_call(self):
        total, steps = [((1, 0), I)], [((1, 0), 0)]
        told = walked(table_of("place and push"), total, steps)
        total.clear()
        steps.clear()
        self.assertEqual(told, [((), (-1, 1)), ((0, 1), I)])


class WalkedRefusals(Case):
    def test_no_sum_goes_ahead_of_no_place(self):
        self.refused(walked, (table_of("round"), [((0,), N)], [((1, 0), 0)]), NoSum, place=0)
        self.refused(walked, (table_of("round"), [((), I), None], [None]), NoSum, place=1)

    def test_terms_that_are_none(self):
        table = table_of("thirds")
        for wrong in wrong_terms(3):
            self.refused(walked, (table, [wrong], []), NoSum, place=0)
            self.refused(walked, (table, [wrong, ((2, 1, 0), I)], []), NoSum, place=0)
            self.refused(walked, (table, [((), I), ((0,), I), wrong], []), NoSum, place=2)

    def test_words_that_are_not_in_the_sum(self):
        table, total = table_of("two by two"), [((0, 1), I), ((1, 0), I), ((2, 1, 0), I)]
        for word in ((), (0,), (2, 0), (2, 1), (1, 0, 0), (2, 1, 1), (2, 2, 0), (3, 0), (2, 1, 0, 0), (5, 4, 3, 2, 1, 0)):
            for place in (0, 1, 2):
                self.refused(walked, (table, total, [(word, place)]), NoPlace, step=0)
        self.refused(walked, (table, [], [((1, 0), 0)]), NoPlace, step=0)

    def test_words_with_what_are_no_ways(self):
        table, total = table_of("two by two"), [((0, 1), I), ((1, 0), I), ((2, 1, 0), I)]
        for word in ((True, False), (1, False), (True, 0), ([], 0), (1, []), (None, 0), ("1", "0"), ((1,), 0), (1, (0,))):
            self.refused(walked, (table, total, [(word, 0)]), NoPlace, step=0)

    def test_a_word_that_has_gone(self):
        table, total = table_of("two by two"), [((1, 0), I), ((2, 0), I)]
        self.refused(walked, (table, total, [((1, 0), 0), ((1, 0), 0)]), NoPlace, step=1)
        self.refused(walked, (table, total, [((1, 0), 0), ((2, 0), 0), ((1, 0), 0)]), NoPlace, step=2)

    def test_a_word_that_came_to_nought(self):
        total, steps = [((1, 0), (-1, 1)), ((2, 0, 0), I)], [((2, 0, 0), 0)]
        self.assertEqual(walked(table_of("round"), total, steps), [((0, 2, 0), I)])
        self.refused(walked, (table_of("round"), total, steps + [((1, 0), 0)]), NoPlace, step=1)

    def test_places_at_which_the_word_does_not_fall(self):
        table = table_of("two by two")
        for word in all_words(3, 3):
            for place in range(2):
                if place not in falls(word):
                    self.refused(walked, (table, [(word, I)], [(word, place)]), NoPlace, step=0)
        self.refused(walked, (table, [((1, 1), I)], [((1, 1), 0)]), NoPlace, step=0)
        self.refused(walked, (table, [((0, 1), I)], [((0, 1), 0)]), NoPlace, step=0)

    def test_places_that_are_none(self):
        table = table_of("two by two")
        for word in ((1, 0), (2, 1, 0), (2, 1, 2, 1, 0)):
            for place in (
                len(word) - 1, len(word), 60, -1, -2, -len(word), 10 ** 30, True, False, None, "", "0", [], [0], (), (0,), (0, 1),
            ):
                self.refused(walked, (table, [(word, I)], [(word, place)]), NoPlace, step=0)
                self.refused(walked, (table, [(word, I)], [(word, 0), (word[::-1], place)]), NoPlace, step=1)
        for word in ((), (0,)):
            for place in (0, 1, -1):
                self.refused(walked, (table, [(word, I)], [(word, place)]), NoPlace, step=0)

    def test_what_is_no_tuple_of_two(self):
        for wrong in (None, 0, "", [], (), ((1, 0),), ((1, 0), 0, 0), [(1, 0), 0]):
            self.refused(walked, (table_of("round"), [((1, 0), I)], [wrong]), NoPlace, step=0)

    def test_the_first_wrong_step(self):
        table, total = table_of("thirds"), [((2, 1, 0), I)]
        self.refused(walked, (table, total, [((2, 1, 0), 0), ((0, 0), 0), ((1, 1), 0)]), NoPlace, step=1)
        self.refused(walked, (table, total, [((2, 1, 0), 2), ((2, 1, 0), None)]), NoPlace, step=0)
        steps = steps_up(table, total)
        self.refused(walked, (table, total, steps + [((2, 1, 0), 0)]), NoPlace, step=len(steps))

    def test_a_refusal_changes_nothing(self):
        table, total = table_of("place and push"), [((1, 0), I)]
        self.refused(walked, (table, total, [((1, 0), 0), ((1, 0), 0)]), NoPlace, step=1)
        self.assertEqual(walked(table, total, [((1, 0), 0)]), [((), (-1, 1)), ((0, 1), I)])


class StepsUp(Case):
    def check(self, table, total):
        steps = self.ask(steps_up, table, total)
        self.assertIs(steps.__class__, list)
        for step in steps:
            self.assertEqual([one.__class__ for one in step], [tuple, int])
            self.assertIs(step.__class__, tuple)
        told = walked(table, total, steps)
        self.assertTrue(is_rising(told))
        self.assertTrue(is_plain_sum(told, table.count))
        return steps

    def test_written_out(self):
        self.assertEqual(self.ask(steps_up, table_of("place and push"), [((1, 0), I)]), [((1, 0), 0)])
        self.assertEqual(self.ask(steps_up, table_of("thirds"), []), [])
        self.assertEqual(self.ask(steps_up, table_of("thirds"), [((), I), ((0, 1, 1, 2), I)]), [])

    def test_single_words(self):
        for name in ("two by two, shifted", "third and alone", "thirds", "in a ring"):
            table = table_of(name)
            for long in range(4):
                for word in all_words(table.count, long):
                    self.check(table, [(word, (2, 3))])
            self.check(table, [((1, 1, 1, 0, 0), I)])
            self.check(table, [((table.count - 1,) * 3 + (0,) * 2, I)])

    def test_sums(self):
        for salt, (count, leavings) in enumerate(ALL.values()):
            self.check(Table(count, leavings), mixed_sum(count, 5, 8, salt + 40))
        for count in range(1, 7):
            self.check(Table(count, mixed_leavings(count, count)), mixed_sum(count, 5, 12, count))

    def test_more_steps_than_sixty(self):
        steps = self.check(Table(6, mixed_leavings(6, 8)), [((5, 4, 3, 2, 1), I)])
        self.assertGreater(len(steps), 60)

    def test_all_words_at_once(self):
        total = [(word, I) for long in range(4) for word in all_words(3, long)]
        self.check(table_of("thirds"), total)

    def test_no_sum(self):
        for wrong in wrong_terms(3):
            self.refused(steps_up, (table_of("thirds"), [wrong]), NoSum, place=0)
            self.refused(steps_up, (table_of("thirds"), [((), I), wrong, ((2, 1, 0), I)]), NoSum, place=1)

    def test_told_steps_are_the_askers_own(self):
        table = table_of("two by two")
        told = steps_up(table, [((2, 1, 0), I)])
        kept = list(told)
        spoil(told)
        self.assertEqual(steps_up(table, [((2, 1, 0), I)]), kept)

    def test_numbers_alone_and_noughts(self):
        self.check(Table(2, [(0, 1, nums(1, 1, 1))]), [((1, 0, 1, 0, 1), I)])


if __name__ == "__main__":
    unittest.main()
