"""eaten, moved_on, silenced: held against the risen sum, against products, and against known numbers of sums."""

import itertools
import unittest
from fractions import Fraction

from reckon import (
    I, KEEPS, N, Case, add_terms, is_plain_sum, is_rising, joined_words, kept_faults, mixed_grid, mixed_sum, nums, number,
    rank, rise_plain, rising_words, sum_of, table_of, terms_of, worth,
)
from swaprest.shelves import eaten, moved_on, silenced
from swaprest.tables import Table
from swaprest.words import of_thing, product, risen

# The way 0 moves down, 1 stretches, 2 moves up.
DOWN = (3, [(0, 1, nums(2, 0, 0, 0)), (0, 2, nums(0, -1, 0, 0)), (1, 2, nums(0, 0, 2, 0))])
# As DOWN, but each of the first two ways with a number alone added to it.
DOWN_SHIFTED = (3, [(0, 1, [(2, 1), N, N, (-3, 1)]), (0, 2, [N, (-1, 1), N, (1, 2)]), (1, 2, nums(0, 0, 2, 0))])


def shelves():
    """Tuples (count, leavings, first, numbers) of shelves."""
    found = []
    for name, (count, leavings) in KEEPS.items():
        found.append((count, leavings, count, []))
        found.append((count, leavings, count - 1, [(-2, 3)]))
    found += [(*DOWN, 1, [weight, N]) for weight in ((-3, 2), N, (1, 2), (2, 1))] + [(*DOWN, 2, [(5, 1)]), (*DOWN, 0, nums(0, 0, 0))]
    found += [(*DOWN_SHIFTED, 1, [(7, 2), N]), (*DOWN_SHIFTED, 3, [])]
    found += [(*KEEPS["one way"], 0, [(7, 2)]), (*KEEPS["nothing left of six"], 2, nums(1, -2, 0, 3))]
    found += [(*KEEPS["nothing left of six"], 0, mixed_grid(1, 6, 5)[0]), (*KEEPS["turns and moves"], 0, [(3, 5), N])]
    found += [(*KEEPS["third and alone"], 0, [N, (5, 21)]), (*KEEPS["third and alone"], 0, [(-10, 7), N])]
    found += [(*KEEPS["three in a row"], 1, nums(4, -3)), (*KEEPS["three in a row"], 0, nums(4, -3, 0))]
    found += [(*KEEPS["two by two, shifted"], 0, [(-1, 3), (2, 1), (1, 2)]), (*KEEPS["round"], 0, nums(0, 0, 0))]
    found += [(*KEEPS["two letters, three deep"], 2, nums(1, 2, 3)), (*KEEPS["two letters, three deep"], 1, nums(1, 2, 3, 0))]
    found += [(*KEEPS["two letters, three deep"], 0, nums(1, 2, 0, 0, 0)), (*KEEPS["two places, two pushes"], 2, nums(2, 3))]
    found += [(*KEEPS["grown by a turn"], 1, nums(2, 0, 5)), (*KEEPS["all of two by two"], 0, [(3, 2), N, N, (3, 2)])]
    return found


def eaten_plain(count, leavings, first, numbers, total):
    """The risen sum, each word without its eaten ways."""
    found = {}
    for word, one in rise_plain(leavings, total):
        share = worth(one)
        for way in word:
            share *= worth(numbers[way - first]) if way >= first else 1
        rest = tuple(way for way in word if way < first)
        found[rest] = found.get(rest, 0) + share
    return sum_of(found)


def moved_plain(count, leavings, first, numbers, total, shelf):
    return eaten_plain(count, leavings, first, numbers, joined_words(total, shelf))


def shelf_sum(first, long, many, salt):
    """A shelf sum, [] or () alone where there is no other."""
    if first == 0:
        return [((), number(Fraction(salt % 5 + 1, 3)))][:salt % 7]
    return sum_of({tuple(sorted(word)): worth(one) for word, one in mixed_sum(first, long, many, salt)})


class Eaten(Case):
    def test_written_out(self):
        table, total = Table(*DOWN), [((2, 0), I)]
        self.assertEqual(self.ask(eaten, table, 1, nums(5, 0), total), [((), (5, 1))])
        self.assertEqual(self.ask(eaten, table, 1, nums(5, 0), [((2, 0, 0), I)]), [((0,), (8, 1))])
        self.assertEqual(self.ask(eaten, table, 3, [], total), [((1,), I), ((0, 2), I)])
        self.assertEqual(self.ask(eaten, table, 2, nums(7), total), [((0,), (7, 1)), ((1,), I)])
        self.assertEqual(self.ask(eaten, table, 0, nums(0, 0, 0), total + [((0, 1, 2), I)]), [])
        self.assertEqual(self.ask(eaten, table, 0, nums(0, 0, 0), [((), I)] + total), [((), I)])
        self.assertEqual(self.ask(eaten, table_of("place and push"), 1, [(2, 3)], [((1, 0), I)]), [((), (-1, 1)), ((0,), (2, 3))])

    def test_against_the_risen_sum(self):
        for salt, handed in enumerate(shelves()):
            count, leavings, first, numbers = handed
            for turn in range(5):
                total = mixed_sum(count, 1 + turn, 6, salt * 7 + turn)
                told = self.ask(eaten, Table(count, leavings), first, numbers, total)
                self.assertTrue(is_plain_sum(told, first))
                self.assertTrue(is_rising(told))
                self.assertEqual(told, eaten_plain(*handed, total))

    def test_no_way_eaten(self):
        for salt, (count, leavings) in enumerate(KEEPS.values()):
            total = mixed_sum(count, 4, 8, salt)
            table = Table(count, leavings)
            self.assertEqual(self.ask(eaten, table, count, [], total), risen(table, total))

    def test_nothing_and_shelf_sums(self):
        for salt, handed in enumerate(shelves()):
            count, leavings, first, numbers = handed
            table = Table(count, leavings)
            self.assertEqual(self.ask(eaten, table, first, numbers, []), [])
            shelf = shelf_sum(first, 5, 7, salt)
            self.assertEqual(self.ask(eaten, table, first, numbers, shelf), shelf)

    def test_an_eaten_way_behind_is_its_number(self):
        for salt, (count, leavings, first, numbers) in enumerate(shelves()):
            table = Table(count, leavings)
            total = mixed_sum(count, 4, 6, salt + 50)
            once = terms_of(eaten(table, first, numbers, total))
            for way in range(first, count):
                told = eaten(table, first, numbers, joined_words(total, [((way,), I)]))
                self.assertEqual(told, sum_of({word: one * worth(numbers[way - first]) for word, one in once.items()}))

    def test_words_that_come_to_the_same_and_to_nought(self):
        table = Table(3, [])
        total = [((0,), I), ((0, 1), (3, 1)), ((0, 2), (-5, 1)), ((1, 2), I)]
        self.assertEqual(self.ask(eaten, table, 1, nums(3, 2), total), [((), (6, 1))])
        self.assertEqual(self.ask(eaten, table, 1, nums(3, 1), total), [((), (3, 1)), ((0,), (5, 1))])
        self.assertEqual(self.ask(eaten, table, 1, nums(0, 0), total), [((0,), I)])

    def test_large_numbers(self):
        tall = 10 ** 999 + 7
        handed = (2, [(0, 1, [N, (tall, 3), N])], 1, [N])
        self.assertEqual(self.ask(eaten, Table(*handed[:2]), 1, [N], [((0, 1, 0), (1, tall))]), [])
        handed = (2, [(0, 1, [N, N, (tall, 3)])], 1, [(tall, 7)])
        total = [((1, 1, 0), (1, tall)), ((1, 0, 1, 0, 1), (tall, 11))]
        self.assertEqual(self.ask(eaten, Table(*handed[:2]), 1, [(tall, 7)], total), eaten_plain(*handed, total))


class MovedOn(Case):
    def test_written_out(self):
        table = Table(*DOWN)
        for many in range(4):
            shelf = [((0,) * many, I)]
            for weight in range(-1, 4):
                told = self.ask(moved_on, table, 1, nums(weight, 0), [((2,), I)], shelf)
                self.assertEqual(told, sum_of({(0,) * (many - 1): many * (weight - many + 1)}))
                told = self.ask(moved_on, table, 1, nums(weight, 0), [((1,), I)], shelf)
                self.assertEqual(told, sum_of({(0,) * many: weight - 2 * many}))
                told = self.ask(moved_on, table, 1, nums(weight, 0), [((0,), I)], shelf)
                self.assertEqual(told, [((0,) * (many + 1), I)])

    def test_against_words_put_together(self):
        for salt, handed in enumerate(shelves()):
            count, leavings, first, numbers = handed
            for long, other in ((2, 3), (3, 2), (1, 4), (5, 0), (0, 5), (1, 1)):
                total, shelf = mixed_sum(count, long, 4, salt + long), shelf_sum(first, other, 4, salt + other)
                told = self.ask(moved_on, Table(count, leavings), first, numbers, total, shelf)
                self.assertTrue(is_plain_sum(told, first))
                self.assertTrue(is_rising(told))
                self.assertEqual(told, moved_plain(*handed, total, shelf))

    def test_a_product_moves_as_one_behind_the_other(self):
        seen = 0
        for salt, (count, leavings, first, numbers) in enumerate(shelves()):
            table = Table(count, leavings)
            for long, other, third in ((1, 2, 2), (2, 1, 2), (2, 2, 1), (3, 1, 1), (1, 1, 3)):
                one, two = mixed_sum(count, long, 3, salt + long), mixed_sum(count, other, 3, salt + other + 40)
                shelf = shelf_sum(first, third, 3, salt + third)
                behind = moved_on(table, first, numbers, one, moved_on(table, first, numbers, two, shelf))
                self.assertEqual(self.ask(moved_on, table, first, numbers, product(table, one, two), shelf), behind)
                seen += behind != []
        self.assertGreater(seen, 100)

    def test_nothing(self):
        for count, leavings, first, numbers in shelves():
            table = Table(count, leavings)
            self.assertEqual(self.ask(moved_on, table, first, numbers, [], [((), I)]), [])
            self.assertEqual(self.ask(moved_on, table, first, numbers, mixed_sum(count, 5, 5, 3), []), [])

    def test_of_the_word_without_ways_it_is_eaten(self):
        for salt, (count, leavings, first, numbers) in enumerate(shelves()):
            table, total = Table(count, leavings), mixed_sum(count, 5, 5, salt)
            self.assertEqual(self.ask(moved_on, table, first, numbers, total, [((), I)]), eaten(table, first, numbers, total))

    def test_what_is_left_of_two_things(self):
        for salt, (count, leavings, first, numbers) in enumerate(shelves()):
            table = Table(count, leavings)
            one, other = mixed_grid(2, count + 1, salt)
            shelf = shelf_sum(first, 3, 3, salt + 9)

            def moves(thing, onto):
                return moved_on(table, first, numbers, of_thing(table, thing), onto)

            both = sum_of(add_terms((1, moves(one, moves(other, shelf))), (-1, moves(other, moves(one, shelf)))))
            self.assertEqual(moves(table.left(one, other), shelf), both)


class Silenced(Case):
    def check(self, handed, others, most):
        count, leavings, first, numbers = handed
        told = self.ask(silenced, Table(count, leavings), first, numbers, others, most)
        self.assertIs(told.__class__, list)
        words = rising_words(first, most) if first else [()]
        for total in told:
            self.assertTrue(is_plain_sum(total, first))
            self.assertTrue(is_rising(total))
            for other in others:
                self.assertEqual(moved_plain(*handed, other, total), [])
        rows = [[dict(total).get(word, N) for word in words] for total in told]
        self.assertEqual(sum(len(total) for total in told), sum(one != N for row in rows for one in row))
        self.assertEqual(kept_faults(rows, len(words)), "")
        columns = []
        for word in words:
            came = [terms_of(moved_plain(*handed, other, [(word, I)])) for other in others]
            columns.append({(at, key): one for at, terms in enumerate(came) for key, one in terms.items()})
        keys = sorted({key for column in columns for key in column})
        asked = [[number(column.get(key, Fraction(0))) for column in columns] for key in keys]
        self.assertEqual(len(told), len(words) - rank(asked))
        return told

    def test_known_ones(self):
        for weight in range(-2, 5):
            for most in range(4):
                wanted = [[((), I)]] + [[((0,) * (weight + 1), I)]] * (0 <= weight < most)
                told = self.check((*DOWN, 1, nums(weight, 0)), [[((2,), I)]], most)
                self.assertEqual(told, wanted)
        self.assertEqual(self.check((*DOWN, 1, [(1, 2), N]), [[((2,), I)]], 3), [[((), I)]])
        stretched = [((), (-1, 1)), ((1,), I)]
        self.assertEqual(self.check((*DOWN, 1, nums(5, 0)), [stretched], 3), [[((0, 0), I)]])
        self.assertEqual(self.check((*DOWN, 1, nums(5, 0)), [stretched, [((2,), I)]], 3), [])
        self.assertEqual(self.check((*KEEPS["place and push"], 1, nums(0)), [[((1, 1), I)]], 3), [[((), I)], [((0,), I)]])

    def test_of_an_empty_list(self):
        for count, leavings, first, numbers in shelves():
            for most in range(4):
                words = rising_words(first, most) if first else [()]
                if len(words) <= 60:
                    for others in ([], [[]], [[], []]):
                        told = self.ask(silenced, Table(count, leavings), first, numbers, others, most)
                        self.assertEqual(told, [[(word, I)] for word in words])

    def test_single_sums(self):
        for salt, handed in enumerate(shelves()):
            for most, long in ((0, 5), (1, 3), (2, 1), (2, 2), (3, 1)):
                if handed[2] > 3 and most > 1:
                    continue
                self.check(handed, [mixed_sum(handed[0], long, 2, salt + most)], most)

    def test_several_sums_that_silence_something(self):
        seen = 0
        for salt, handed in enumerate(shelves()):
            count, _, first, numbers = handed
            if first == count:
                continue
            others = []
            for way in range(first, count):
                less = number(-worth(numbers[way - first]))
                others.append(sum_of({(): worth(less), (way,): Fraction(1)}))
            for most in range(3):
                told = self.check(handed, others, most)
                self.assertEqual(told[0], [((), I)])
                seen += len(told) > 1
        self.assertGreater(seen, 20)

    def test_the_word_without_ways_silences_nothing_else(self):
        for handed in shelves():
            self.assertEqual(self.ask(silenced, Table(*handed[:2]), *handed[2:], [[((), (2, 7))]], 2), [])

    def test_what_is_told_may_be_handed_in(self):
        table = Table(*DOWN)
        for total in silenced(table, 1, nums(2, 0), [[((2,), I)]], 3):
            self.assertEqual(moved_on(table, 1, nums(2, 0), [((2,), I)], total), [])
            for most in range(3):
                self.ask(silenced, table, 1, nums(2, 0), [total], most)

    def test_all_ways_eaten(self):
        for most, weight in itertools.product(range(4), (N, (1, 3))):
            handed = (*KEEPS["turns and moves"], 0, [weight, N])
            self.assertEqual(self.check(handed, [[((0,), I)]], most), [[((), I)]] * (weight == N))
            self.assertEqual(self.check(handed, [[((1,), I)]], most), [[((), I)]])


if __name__ == "__main__":
    unittest.main()
