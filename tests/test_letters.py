"""joined, shuffled, meeting_of: held against words laid into one another by every choice of places."""

import itertools
import unittest
from fractions import Fraction

from reckon import I, N, Case, add_terms, is_plain_number, is_plain_sum, joined_words, mixed_sum, no_sums, number, shuffled_words, sum_of, terms_of, worth
from swaprest.errors import NoCount, NoSum, TooLong
from swaprest.letters import joined, meeting_of, shuffled

NO_COUNTS = (0, -1, 5, 6, 10 ** 40, True, False, None, "", "2", [], [2], (), (2,), (2, 1), [[]])
LONG = [((0, 0, 0, 0, 0), I)]
LENGTHS = ((0, 5), (1, 4), (2, 3), (3, 2), (4, 1), (5, 0), (1, 1), (2, 2))


def met(one, other):
    """The sum of the products of like words' numbers."""
    return number(sum((x * terms_of(other).get(word, 0) for word, x in terms_of(one).items()), Fraction(0)))


class Joined(Case):
    def test_written_out(self):
        self.assertEqual(self.ask(joined, 2, [((0,), (2, 1))], [((1,), (1, 2))]), [((0, 1), I)])
        self.assertEqual(self.ask(joined, 2, [((1,), (2, 1))], [((0,), (1, 2))]), [((1, 0), I)])
        self.assertEqual(self.ask(joined, 1, [((), I), ((0,), I)], [((), I), ((0,), (-1, 1))]), [((), I), ((0, 0), (-1, 1))])
        self.assertEqual(self.ask(joined, 3, [((), (2, 1))], [((2, 1, 0), I)]), [((2, 1, 0), (2, 1))])

    def test_against_words(self):
        for count in range(1, 5):
            for salt, (long, other) in enumerate(LENGTHS * 3):
                one, two = mixed_sum(count, long, 5, salt), mixed_sum(count, other, 5, salt + 50)
                told = self.ask(joined, count, one, two)
                self.assertTrue(is_plain_sum(told, count))
                self.assertEqual(told, joined_words(one, two))

    def test_three_at_once(self):
        for count in range(1, 5):
            for salt in range(12):
                sums = [mixed_sum(count, long, 4, salt + long) for long in ((1, 2, 2), (2, 1, 2), (2, 2, 1), (3, 1, 1))[salt % 4]]
                left = self.ask(joined, count, joined(count, sums[0], sums[1]), sums[2])
                self.assertEqual(left, self.ask(joined, count, sums[0], joined(count, sums[1], sums[2])))

    def test_the_word_without_letters_and_nothing(self):
        for told_by in (joined, shuffled):
            for count in range(1, 5):
                total = mixed_sum(count, 5, 6, count)
                self.assertEqual(self.ask(told_by, count, [((), I)], total), total)
                self.assertEqual(self.ask(told_by, count, total, [((), I)]), total)
                self.assertEqual(self.ask(told_by, count, total, []), [])
                self.assertEqual(self.ask(told_by, count, [], total), [])
                self.assertEqual(self.ask(told_by, count, [], []), [])

    def test_large_numbers(self):
        tall = 10 ** 999 + 7
        one, other = [((0,), (tall, 3)), ((1,), I)], [((), (3, tall)), ((1, 0), (tall, 2))]
        for told_by, plain in ((joined, joined_words), (shuffled, shuffled_words)):
            self.assertEqual(self.ask(told_by, 2, one, other), plain(one, other))


class Shuffled(Case):
    def test_written_out(self):
        self.assertEqual(self.ask(shuffled, 2, [((0,), I)], [((1,), I)]), [((0, 1), I), ((1, 0), I)])
        self.assertEqual(self.ask(shuffled, 1, [((0, 0), I)], [((0, 0, 0), (1, 2))]), [((0,) * 5, (5, 1))])
        told = self.ask(shuffled, 3, [((0, 1), I)], [((2,), I)])
        self.assertEqual(told, [((0, 1, 2), I), ((0, 2, 1), I), ((2, 0, 1), I)])
        told = self.ask(shuffled, 2, [((0, 1), I)], [((0,), (3, 1))])
        self.assertEqual(told, [((0, 0, 1), (6, 1)), ((0, 1, 0), (3, 1))])
        self.assertEqual(self.ask(shuffled, 2, [((0,), I), ((1,), (-1, 1))], [((0,), I), ((1,), I)]), [((0, 0), (2, 1)), ((1, 1), (-2, 1))])

    def test_all_small_words(self):
        words = [word for long in range(4) for word in itertools.product(range(2), repeat=long)]
        for one, other in itertools.product(words, words):
            if len(one) + len(other) <= 5:
                told = shuffled(2, [(one, I)], [(other, I)])
                self.assertEqual(told, shuffled_words([(one, I)], [(other, I)]))

    def test_against_choices_of_places(self):
        for count in range(1, 5):
            for salt, (long, other) in enumerate(LENGTHS * 2):
                one, two = mixed_sum(count, long, 5, salt), mixed_sum(count, other, 5, salt + 50)
                told = self.ask(shuffled, count, one, two)
                self.assertTrue(is_plain_sum(told, count))
                self.assertEqual(told, shuffled_words(one, two))
                self.assertEqual(told, shuffled(count, two, one))

    def test_three_at_once(self):
        for count in range(1, 5):
            for salt in range(12):
                sums = [mixed_sum(count, long, 4, salt + long) for long in ((1, 2, 2), (2, 1, 2), (2, 2, 1), (3, 1, 1))[salt % 4]]
                left = self.ask(shuffled, count, shuffled(count, sums[0], sums[1]), sums[2])
                self.assertEqual(left, self.ask(shuffled, count, sums[0], shuffled(count, sums[1], sums[2])))

    def test_sums(self):
        for told_by in (joined, shuffled):
            one, two, other = mixed_sum(3, 2, 4, 1), mixed_sum(3, 2, 4, 2), mixed_sum(3, 3, 4, 3)
            both = sum_of(add_terms((2, one), (Fraction(-1, 3), two)))
            wanted = sum_of(add_terms((2, told_by(3, one, other)), (Fraction(-1, 3), told_by(3, two, other))))
            self.assertEqual(told_by(3, both, other), wanted)


class MeetingOf(Case):
    def test_written_out(self):
        one = [((), I), ((0,), (2, 1)), ((0, 1), (1, 2))]
        self.assertEqual(self.ask(meeting_of, 2, one, one), (21, 4))
        self.assertEqual(self.ask(meeting_of, 2, one, [((), (3, 1)), ((1, 0), I)]), (3, 1))
        self.assertEqual(self.ask(meeting_of, 2, one, [((1,), I), ((1, 0), I)]), N)
        self.assertEqual(self.ask(meeting_of, 2, one, [((0,), (-1, 2)), ((0, 1), (2, 1))]), N)
        self.assertEqual(self.ask(meeting_of, 2, one, []), N)
        self.assertEqual(self.ask(meeting_of, 4, [], []), N)

    def test_either_way_about(self):
        seen = 0
        for count in range(1, 5):
            for salt in range(20):
                one, other = mixed_sum(count, 3, 9, salt), mixed_sum(count, 3, 9, salt + 30)
                told = self.ask(meeting_of, count, one, other)
                self.assertTrue(is_plain_number(told))
                self.assertEqual(told, met(one, other))
                self.assertEqual(self.ask(meeting_of, count, other, one), told)
                seen += told != N
        self.assertGreater(seen, 30)

    def test_long_words_are_not_too_long_together(self):
        total = mixed_sum(4, 5, 12, 3)
        self.assertEqual(self.ask(meeting_of, 4, total, total), number(sum(worth(one) ** 2 for _, one in total)))

    def test_words_taken_off(self):
        # The number of a word in a joined sum meets what is taken off its beginning and its end.
        one, other = mixed_sum(2, 2, 6, 4), mixed_sum(2, 3, 8, 5)
        for word in itertools.product(range(2), repeat=5):
            wanted = sum(terms_of(one).get(word[:k], 0) * terms_of(other).get(word[k:], 0) for k in range(6))
            self.assertEqual(meeting_of(2, joined(2, one, other), [(word, I)]), number(Fraction(wanted)))


class Refusals(Case):
    def test_no_count_goes_ahead_of_all(self):
        for wrong in NO_COUNTS:
            for told_by in (joined, shuffled, meeting_of):
                for one, other in (([], []), ([None], [None]), (LONG, LONG), ([((7,), I)], [])):
                    self.refused(told_by, (wrong, one, other), NoCount)

    def test_then_what_is_no_sum(self):
        for told_by in (joined, shuffled, meeting_of):
            for total, place in no_sums():
                self.refused(told_by, (3, total, []), NoSum, place=place)
                self.refused(told_by, (3, total, [((0,), I), ((0,), I), None]), NoSum, place=place)
                self.refused(told_by, (3, [], total), NoSum, place=place)
                self.refused(told_by, (3, LONG, total), NoSum, place=place)
            self.refused(told_by, (3, [((), I), None], [None]), NoSum, place=1)

    def test_letters_hang_on_the_count(self):
        for told_by in (joined, shuffled, meeting_of):
            for count in range(1, 5):
                self.refused(told_by, (count, [((), I), ((0, count), I)], []), NoSum, place=1)
                self.refused(told_by, (count, [], [((count,), I)]), NoSum, place=0)
                told_by(count, [((count - 1,), I)], [((count - 1,), I)])

    def test_then_too_long(self):
        for told_by in (joined, shuffled):
            for long, other in itertools.product(range(6), repeat=2):
                handed = (2, [((0,) * long, I)], [((1,) * other, I)])
                if long + other > 5:
                    self.refused(told_by, handed, TooLong)
                    self.refused(told_by, (2, [((), I)] + handed[1], [((), I)] + handed[2]), TooLong if long and other else NoSum)
                else:
                    self.assertEqual(len(told_by(*handed)[0][0]), long + other)


if __name__ == "__main__":
    unittest.main()
