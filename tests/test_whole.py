"""What holds over the whole program: its names and arguments, and that who asks the same again is told the same."""

import copy
import importlib
import inspect
import unittest

from reckon import I, N, SPIN, STEP, Case, nums, shape, spoil
from swaprest import acting, gaps, grown, least, letters, making, numerals, passing, rows, shelves, squares, sums, texts, trees, words
from swaprest.bench import Bench
from swaprest.errors import SwapError
from swaprest.tables import Table

FUNCTIONS = {
    "numerals": "is_number(one) fraction(top,bottom) plus(one,other) less(one,other) times(one,other) over(one,other)",
    "rows": "kept(rows,width) summed(rows,row) noughts(rows,width) common(one,other,width)",
    "squares": "moved(square,row) after(one,other) back_square(square)",
    "making": "beside(one,other) turned(table,rows) loose(letters,depth)",
    "gaps": "laid_under(table,gap) gaps(table) undone(table,gap)",
    "words": "walked(table,total,steps) steps_up(table,total) risen(table,total) two_ways(table) product(table,one,other)"
    " of_thing(table,row) thing_of(table,total) parted(table,total)",
    "sums": "swap_of(table,one,other) longest_of(table,total) power_of(table,total,many) turned_back(table,total)"
    " even_of(table,total) uneven_of(table,total)",
    "passing": "passes(table,one,other) passing(table,others,most)",
    "shelves": "eaten(table,first,numbers,total) moved_on(table,first,numbers,total,shelf) silenced(table,first,numbers,others,most)",
    "acting": "acting_fault(table,squares) led(table,squares,total) facing(table,squares) both(table,one,other)"
    " shelf_led(table,squares,first,numbers,row,shelf) still_room(table,squares) kept_by(table,squares,rows)"
    " room_beside(table,squares,rows)",
    "letters": "joined(count,one,other) shuffled(count,one,other) meeting_of(count,one,other)",
    "trees": "said(count,tree) tree_thing(table,rows,tree) combed(count,total) is_of_leavings(count,total)",
    "least": "least_words(count,length) fallen(word) least_tree(word) told_by_least(count,total)",
    "grown": "cut_joined(count,one,other) grown(count,total) logged(count,total) behind_trees() depth_of(table)"
    " put_behind(table,one,other)",
    "texts": "table_text(table) sum_text(total) read_table(text) read_sum(text,count)",
}

SPIN_LEAVINGS = [(0, 1, nums(0, 2, 0, 0)), (0, 2, nums(0, 0, -2, 0)), (1, 2, nums(1, 0, 0, 0))]
DOWN_LEAVINGS = [(0, 1, nums(2, 0, 0, 0)), (0, 2, nums(0, -1, 0, 0)), (1, 2, nums(0, 0, 2, 0))]


def questions():
    """Tuples (function, what is handed in) of all modules, made anew each time; some are refused."""
    spin, push, ring = Table(3, SPIN_LEAVINGS), Table(2, [(0, 1, nums(0, 0, 1))]), Table(3, [(0, 1, nums(0, 0, 1, 0)), (0, 2, nums(1, 0, 0, 0))])
    down, flat = Table(3, DOWN_LEAVINGS), Table(3, [])
    total, other = [((), I), ((2, 1), (1, 2)), ((1, 0, 2), (-3, 1))], [((1,), I), ((2, 0), (5, 3))]
    found = [(numerals.plus, (I, (1, 3))), (numerals.over, (I, N)), (rows.kept, ([nums(1, 2), nums(3, 4)], 2)), (rows.kept, ([nums(1)], 2))]
    found += [(rows.summed, ([nums(1, 2)], nums(2, 4))), (rows.noughts, ([nums(1, 1, 1)], 3)), (rows.common, ([nums(1, 0)], [nums(1, 1)], 2))]
    found += [(squares.moved, (SPIN[2][0], nums(1, 2))), (squares.after, (SPIN[3][0], SPIN[3][1])), (squares.back_square, (STEP,))]
    for table in (spin, push, ring, flat, down):
        unit = nums(*[1] * (table.count + 1))
        found += [(Table.left, (table, unit, nums(*range(table.count + 1)))), (Table.breaks, (table,)), (words.two_ways, (table,)), (gaps.gaps, (table,))]
        found += [(making.beside, (table, table)), (gaps.laid_under, (table, nums(*range(table.count * (table.count - 1) // 2))))]
        found += [(grown.depth_of, (table,)), (texts.table_text, (table,)), (words.of_thing, (table, unit)), (acting.still_room, (table, [STEP] * table.count))]
        for one in (total, other, [((1, 0), I)]):
            found += [(told_by, (table, one)) for told_by in (
                words.steps_up, words.risen, words.thing_of, words.parted, sums.longest_of, sums.turned_back, sums.even_of, sums.uneven_of,
            )]
            found += [(sums.power_of, (table, one, 1)), (words.product, (table, one, other)), (passing.passes, (table, one, other))]
            found += [(passing.passing, (table, [one], 1)), (shelves.eaten, (table, table.count, [], one)), (sums.swap_of, (table, other, one))]
            found += [(shelves.silenced, (table, 1, nums(*[0] * (table.count - 1)), [one], 1))]
        found += [(grown.put_behind, (table, unit, nums(*range(table.count + 1)))), (trees.tree_thing, (table, [unit, unit[::-1]], (0, (0, 1))))]
    found += [(acting.led, (spin, SPIN[3], total)), (acting.facing, (spin, SPIN[2])), (acting.both, (spin, SPIN[2], SPIN[2]))]
    found += [(acting.kept_by, (spin, SPIN[2], [nums(1, 0)])), (acting.room_beside, (spin, SPIN[2], [])), (acting.room_beside, (Table(1, []), [STEP], [nums(1, 0)]))]
    found += [(acting.acting_fault, (flat, SPIN[2])), (shelves.moved_on, (down, 1, nums(2, 0), other, [((0, 0), I)]))]
    for count in (2, 3):
        for one in (total, other, [((0,), I), ((0, 1), (1, 2))]):
            found += [(told_by, (count, one)) for told_by in (trees.combed, trees.is_of_leavings, least.told_by_least, grown.grown, grown.logged)]
            found += [(told_by, (count, one, [((1,), I)])) for told_by in (letters.joined, letters.shuffled, letters.meeting_of, grown.cut_joined)]
        found += [(trees.said, (count, ((0, 1), 1))), (least.least_words, (count, 4))]
    found += [(least.fallen, ((0, 1, 0),)), (least.least_tree, ((0, 1, 1),)), (grown.behind_trees, ()), (making.loose, (2, 3))]
    found += [(texts.sum_text, (total,)), (texts.read_table, ("2 0,1=1*e",)), (texts.read_sum, ("1:0 -2/3:1.0", 2)), (texts.read_sum, ("1:0 ", 2))]
    return found


def answer(told_by, handed):
    """What is told, or what it is refused with."""
    try:
        return told_by(*handed)
    except SwapError as error:
        return (error.__class__.__name__, vars(error))


def look(thing):
    """What is seen of an answer."""
    if isinstance(thing, tuple) and len(thing) == 2 and isinstance(thing[1], dict):
        return (thing[0], sorted((name, shape(one)) for name, one in thing[1].items()))
    return shape(thing)


class Interface(unittest.TestCase):
    def test_names_and_arguments(self):
        for name, told in FUNCTIONS.items():
            module = importlib.import_module("swaprest." + name)
            for one in told.split():
                function, _, arguments = one[:-1].partition("(")
                found = inspect.signature(getattr(module, function)).parameters
                self.assertEqual(",".join(found), arguments, one)
                self.assertTrue(all(parameter.default is inspect.Parameter.empty for parameter in found.values()))

    def test_classes(self):
        for method, arguments in ((Table, "count,leavings"), (Table.left, "self,one,other"), (Table.breaks, "self"), (Bench, ""), (Bench.tell, "self,line")):
            self.assertEqual(",".join(inspect.signature(method).parameters), arguments)
        table = Table(2, [(0, 1, nums(1, 2, 3))])
        self.assertEqual((table.count, table.leavings), (2, ((0, 1, ((1, 1), (2, 1), (3, 1))),)))


class AskedAgain(unittest.TestCase):
    def test_whatever_was_asked_between(self):
        first = [look(answer(*one)) for one in questions()]
        refused = sum(isinstance(one[0], str) and one[0][:1].isupper() for one in first)
        self.assertGreater(refused, 20)
        self.assertGreater(len(first) - refused, 200)
        asked = questions()
        before = [shape(handed) for _, handed in asked]
        for at in reversed(range(len(asked))):
            told = answer(*asked[at])
            self.assertEqual(look(told), first[at], asked[at])
            spoil(told)
        self.assertEqual([shape(handed) for _, handed in asked], before)
        # Each with another one between, and by what was handed in already.
        for at in range(len(asked)):
            answer(*asked[at * 7 % len(asked)])
            self.assertEqual(look(answer(*asked[at])), first[at], asked[at])

    def test_what_is_done_behind_a_call_with_what_was_handed_in(self):
        leavings = [(0, 1, nums(0, 2, 0, 0)), (0, 2, nums(0, 0, -2, 0)), (1, 2, nums(1, 0, 0, 0))]
        table = Table(3, leavings)
        wanted = shape(table)
        spoil(leavings)
        self.assertEqual(shape(table), wanted)
        for told_by, handed in questions():
            handed = copy.deepcopy(handed)
            told = answer(told_by, handed)
            seen = look(told)
            spoil([one for one in handed if isinstance(one, (list, tuple))])
            self.assertEqual(look(told), seen, told_by)

    def test_a_bench_beside_it(self):
        first = [look(answer(*one)) for one in questions()]
        bench = Bench()
        lines = ["table a 3 0,1=2*1 0,2=-2*2 1,2=1*0", "sum A a 1:2.1.0", "even B A", "uneven C B", "show C", "undo", "all"]
        told = []
        for at, one in enumerate(questions()):
            if at % 20 == 0 and at // 20 < len(lines):
                told.append(bench.tell(lines[at // 20]))
            self.assertEqual(look(answer(*one)), first[at])
        alone = Bench()
        self.assertEqual(told, [alone.tell(line) for line in lines])


if __name__ == "__main__":
    unittest.main()
