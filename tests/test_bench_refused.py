"""What a bench refuses, in the order told, and that nothing has changed behind it."""

import itertools
import unittest

from reckon import Case
from swaprest.bench import Bench
from swaprest.errors import Broken, NoDeed, NoLine, NoMatch, NoName, NoText, NotBare, TooLong

PUSH = "2 0,1=1*e"
SPIN = "3 0,1=2*1 0,2=-2*2 1,2=1*0"
RING = "3 0,1=1*2 0,2=1*0+5*e 1,2=1*0"

LINES = (
    f"table push {PUSH}", f"table spin {SPIN}", f"table ring {RING}", "sum A push 1:0", "sum B push 1:1.1", "sum L push 1:0.0.0", "sum M push 1:1.1.1",
    "sum S spin 1:0", "sum T spin 1:1.2",
)
# How many words each line has at least and at most.
MANY = {
    "table": (3, 99), "sum": (4, 99), "mix": (5, 5), "times": (4, 4), "swap": (4, 4), "even": (3, 3), "uneven": (3, 3), "back": (3, 3),
    "passes": (3, 3), "drop": (2, 2), "show": (2, 2), "rule": (2, 2), "of": (2, 2), "parts": (2, 2), "undo": (1, 1), "all": (1, 1),
}
RIGHT = (
    "table a 2", "sum X push 1:0", "mix X A 2 B", "times X A B", "swap X A B", "even X A", "uneven X A", "back X S", "passes A B", "drop M", "show A",
    "rule push", "of A", "parts S", "all", "undo",
)
NO_NAMES = ("A", "aB", "a1", "1", "abcdefghi", "a-b", "a.b", "a_b", "~", "-", "Push", "0", "e,", "abcdefghA", "a" * 60)
NO_SIGNS = ("a", "Ab", "A1", "1", "ABCDEFGHI", "A-B", "A.B", "A_B", "~", "-", "push", "0", "E,", "ABCDEFGHa", "A" * 60)


def seen(bench):
    """All that is seen of a bench without a deed."""
    return [(word, bench.tell(f"show {word}"), bench.tell(f"of {word}" if word.isupper() else f"rule {word}")) for word in bench.tell("all").split()]


class Refusals(Case):
    def setUp(self):
        self.bench = Bench()
        for line in LINES:
            self.bench.tell(line)
        self.before = seen(self.bench)

    def no(self, line, wanted, **fields):
        """That the line is refused so, and that nothing has changed and no deed came to the others."""
        self.refused(self.bench.tell, (line,), wanted, **fields)
        self.assertEqual(seen(self.bench), self.before, line)
        self.assertEqual(self.bench.tell("undo"), "sum")
        self.assertEqual(self.bench.tell(LINES[-1]), "T")

    def test_right_lines(self):
        for line in RIGHT:
            self.bench.tell(line)

    def test_no_first_word(self):
        for line in ("", " ", "  ", "tables a 2", "Table a 2", "TABLE a 2", "put A", "redo", "alls", "undo.", "a", "A", "push", "show-A", "0", "~", "sum.A"):
            self.no(line, NoLine)
        for line in RIGHT:
            self.no(" " + line, NoLine)
            self.no(line[1:], NoLine)
            self.no(line[0].upper() + line[1:], NoLine)

    def test_how_many_words(self):
        for word, (least, most) in MANY.items():
            for many in range(1, 9):
                line = " ".join([word] + ["A"] * (many - 1))
                if not least <= many <= most:
                    self.no(line, NoLine)
                elif many > 1:
                    self.assertNotIn(self.refusal(line), ("NoLine",))

    def refusal(self, line):
        bench = Bench()
        try:
            bench.tell(line)
        except NoLine:
            return "NoLine"
        except Exception as error:
            return error.__class__.__name__
        return ""

    def test_words_without_signs(self):
        for line in RIGHT:
            words = line.split(" ")
            text = {"table": 2, "sum": 3}.get(words[0])
            if text is None:
                self.no(line + " ", NoLine)
            for at in range(len(words)):
                if text is None or at < text:
                    self.no(" ".join(words[:at] + [""] + words[at:]), NoLine)
                    self.no(" ".join(words[:at] + [""] + words[at + 1:]), NoLine)
        self.no("table a", NoLine)
        self.no("table  2", NoLine)
        self.no("table  2 0,1=1*e", NoLine)
        self.no("sum X push", NoLine)
        self.no("sum X  1:0", NoLine)
        self.no("sum  push 1:0", NoLine)
        self.no("mix  A 2 B", NoLine)
        self.no("undo ", NoLine)
        self.no("all ", NoLine)

    def test_words_without_signs_in_the_text(self):
        self.no("table a ", NoText, at=0)
        self.no("table a  2", NoText, at=0)
        self.no("table a 2 ", NoText, at=1)
        self.no("table a 2  0,1=1*e", NoText, at=1)
        self.no("sum X push ", NoText, at=0)
        self.no("sum X push  1:0", NoText, at=0)
        self.no("sum X push 1:0 ", NoText, at=1)
        self.no("sum X push 1:0  1:1", NoText, at=1)

    def test_new_names(self):
        for wrong in NO_NAMES:
            self.no(f"table {wrong} 2", NoName, name=wrong)
            self.no(f"table {wrong} 7", NoName, name=wrong)
            self.no(f"table {wrong} ", NoName, name=wrong)

    def test_new_signs(self):
        for wrong in NO_SIGNS:
            for line in (
                "sum {} push 1:0", "sum {} none 1:0", "sum {} push 1:0 1:0", "sum {} ring 1:0", "times {} A B", "times {} X Y", "times {} A S", "times {} L M",
                "swap {} A B", "swap {} x y", "mix {} A 2 B", "mix {} A x S", "mix {} X 01 Y", "even {} A", "even {} X", "uneven {} A", "uneven {} a",
                "back {} A", "back {} X",
            ):
                self.no(line.format(wrong), NoName, name=wrong)

    def test_the_first_by_which_nothing_stands(self):
        for wrong in ("X", "ABCDEFGH", "push", "a", "1", "-", "ABCDEFGHI"):
            for word in ("times", "swap"):
                self.no(f"{word} X {wrong} A", NoName, name=wrong)
                self.no(f"{word} X A {wrong}", NoName, name=wrong)
                self.no(f"{word} X {wrong} Y", NoName, name=wrong)
                self.no(f"{word} X L {wrong}", NoName, name=wrong)
            self.no(f"mix X {wrong} 2 A", NoName, name=wrong)
            self.no(f"mix X A x {wrong}", NoName, name=wrong)
            self.no(f"mix X {wrong} x Y", NoName, name=wrong)
            for word in ("even", "uneven", "back"):
                self.no(f"{word} X {wrong}", NoName, name=wrong)
            for word in ("of", "parts"):
                self.no(f"{word} {wrong}", NoName, name=wrong)
            self.no(f"passes {wrong} A", NoName, name=wrong)
            self.no(f"passes S {wrong}", NoName, name=wrong)
            self.no(f"passes {wrong} Y", NoName, name=wrong)
        for wrong in ("none", "A", "S", "X", "pus", "push,", "1", "Push"):
            self.no(f"sum X {wrong} 1:0", NoName, name=wrong)
            self.no(f"sum X {wrong} 1:0 1:0", NoName, name=wrong)
            self.no(f"rule {wrong}", NoName, name=wrong)
        for wrong in ("none", "X", "1", "-", "a", "pushh", "AB"):
            self.no(f"drop {wrong}", NoName, name=wrong)
            self.no(f"show {wrong}", NoName, name=wrong)

    def test_what_went_stands_no_more(self):
        for line in ("drop push", f"table push {SPIN}"):
            self.bench.tell(line)
            for sign in ("A", "B", "L", "M"):
                self.refused(self.bench.tell, (f"show {sign}",), NoName, name=sign)
                self.refused(self.bench.tell, (f"passes S {sign}",), NoName, name=sign)
            self.bench.tell("undo")

    def test_two_names(self):
        for one, two in itertools.chain(itertools.product("ABLM", "ST"), itertools.product("ST", "ABLM")):
            self.no(f"times X {one} {two}", NoMatch)
            self.no(f"swap X {one} {two}", NoMatch)
            self.no(f"mix X {one} 2 {two}", NoMatch)
            self.no(f"mix X {one} 02 {two}", NoMatch)
            self.no(f"passes {one} {two}", NoMatch)

    def test_tables_of_the_same_text_are_two(self):
        for line in (f"table other {PUSH}", "sum O other 1:0"):
            self.bench.tell(line)
        for line in ("times X A O", "swap X O A", "mix X A 1 O", "passes A O"):
            self.refused(self.bench.tell, (line,), NoMatch)

    def test_texts(self):
        for text, at in (("0", 0), ("7", 0), ("x", 0), ("2 1,0=1*0", 1), ("2 0,1=1*e 0,1=1*e", 2), ("2 0,1=1*2", 1), ("3 0,1=1*2 0,2=0*1", 2)):
            self.no(f"table a {text}", NoText, at=at)
            self.no(f"table push {text}", NoText, at=at)
        for text, at in (("x", 0), ("1:2", 0), ("1:0 1:0", 1), ("1:0 2/4:1", 1), ("0 1:0", 0), ("1:0 1:1 1:0.0.0.0.0.0", 2), ("1000000000:e", 0)):
            self.no(f"sum X push {text}", NoText, at=at)
            self.no(f"sum A push {text}", NoText, at=at)
        # A text that is none goes ahead of a table that breaks the rule.
        self.no("sum X ring 1:0 1:3", NoText, at=1)

    def test_numbers(self):
        for text in (
            "x", "01", "-0", "+1", "1/1", "2/4", "1/0", "0/2", "1/-2", "1.5", "1000000000", "1/1000000000", "-1000000000", "1:e", "e", "--1", "1/2/3", "/", "-",
            "A", "00", "0/1",
        ):
            self.no(f"mix X A {text} B", NoText, at=3)
            self.no(f"mix A A {text} A", NoText, at=3)

    def test_undo_with_none(self):
        bench = Bench()
        self.refused(bench.tell, ("undo",), NoDeed)
        self.assertEqual(bench.tell("all"), "")

    def test_then_broken(self):
        for text in ("0", "1:0", "1:2.1.0", "1:e"):
            self.no(f"sum X ring {text}", Broken, at=(0, 1, 2))
            self.no(f"sum A ring {text}", Broken, at=(0, 1, 2))
        self.bench.tell("table late 6 0,1=1*1 3,4=1*4 4,5=1*0+2*e")
        self.refused(self.bench.tell, ("sum X late 1:0",), Broken, at=(1, 4, 5))

    def test_then_too_long(self):
        for one, two in itertools.product("LM", repeat=2):
            self.no(f"times X {one} {two}", TooLong)
            self.no(f"times L {one} {two}", TooLong)
            self.no(f"swap X {one} {two}", TooLong)
            self.no(f"passes {one} {two}", TooLong)
        for line in ("times X B L", "swap X L B", "passes B L", "mix X L 2 M"):
            self.bench.tell(line)

    def test_then_not_bare(self):
        for sign in "ABLM":
            self.no(f"back X {sign}", NotBare, pair=(0, 1))
            self.no(f"parts {sign}", NotBare, pair=(0, 1))
        self.bench.tell("table wide 3 1,2=1*e")
        self.bench.tell("sum W wide 1:0")
        self.refused(self.bench.tell, ("back W W",), NotBare, pair=(1, 2))
        self.refused(self.bench.tell, ("parts W",), NotBare, pair=(1, 2))


if __name__ == "__main__":
    unittest.main()
