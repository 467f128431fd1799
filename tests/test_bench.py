"""A bench: its deeds, what takes them back, its questions; held against the functions by lines in mixed order."""

import unittest
from fractions import Fraction

from reckon import Case, add_terms, drawn, number, sum_of, worth
from swaprest.bench import Bench
from swaprest.errors import NoDeed, NoMatch, NoName, SwapError
from swaprest.passing import passes
from swaprest.sums import even_of, swap_of, turned_back, uneven_of
from swaprest.texts import read_sum, read_table, sum_text, table_text
from swaprest.words import parted, product, risen

PUSH = "2 0,1=1*e"
SPIN = "3 0,1=2*1 0,2=-2*2 1,2=1*0"
RING = "3 0,1=1*2 0,2=1*0+5*e 1,2=1*0"
WORDS = (
    "table", "sum", "times", "swap", "mix", "even", "uneven", "back", "drop", "undo", "show", "rule", "of", "passes", "parts", "all",
)


def told(bench, *lines):
    """The answers to lines."""
    return [bench.tell(line) for line in lines]


def bench_of(*lines):
    """A bench that was told lines."""
    bench = Bench()
    told(bench, *lines)
    return bench


def seen(bench):
    """All that is seen of a bench without a deed."""
    found = {"all": bench.tell("all")}
    for word in found["all"].split(" ") if found["all"] else []:
        found[word] = bench.tell(f"show {word}")
        if word.isupper():
            found[word] += " of " + bench.tell(f"of {word}")
        else:
            found[word] += " rule " + bench.tell(f"rule {word}")
    return found


class Deeds(Case):
    def test_table(self):
        bench = Bench()
        self.assertEqual(told(bench, f"table push {PUSH}", "table a 1", f"table abcdefgh {SPIN}"), ["push", "a", "abcdefgh"])
        self.assertEqual(seen(bench), {
            "all": "a abcdefgh push", "a": "1 rule keeps", "push": PUSH + " rule keeps", "abcdefgh": SPIN + " rule keeps",
        })
        self.assertEqual(told(bench, "table a 3 1,2=-1/2*e+2*0 0,1=1*0", "show a"), ["a", "3 0,1=1*0 1,2=2*0+-1/2*e"])
        self.assertEqual(told(bench, f"table ring {RING}", "rule ring", "show ring"), ["ring", "breaks 0 1 2", RING])

    def test_a_table_put_anew(self):
        bench = bench_of(f"table a {PUSH}", f"table b {PUSH}", "sum A a 1:0", "sum B b 1:0", "sum C a 1:1", "sum D b 1:1")
        before = seen(bench)
        self.assertEqual(told(bench, f"table a {SPIN}", "all", "show a"), ["a", "a b B D", SPIN])
        self.assertEqual(told(bench, "undo"), ["table"])
        self.assertEqual(seen(bench), before)
        # Its sums go even where the table stays as it was.
        self.assertEqual(told(bench, f"table a {PUSH}", "all"), ["a", "a b B D"])

    def test_sum(self):
        bench = bench_of(f"table push {PUSH}")
        self.assertEqual(told(bench, "sum X push 1:0", "sum ABCDEFGH push 3/2:1.0 1:e", "sum Z push 0"), ["X", "ABCDEFGH", "Z"])
        self.assertEqual(told(bench, "show X", "show ABCDEFGH", "show Z"), ["1:0", "-1/2:e 3/2:0.1", "0"])
        self.assertEqual(told(bench, "sum X push 1:1", "show X", "of X"), ["X", "1:1", "push"])
        told(bench, f"table spin {SPIN}", "sum X spin 1:2.1")
        self.assertEqual(told(bench, "show X", "of X"), ["-1:0 1:1.2", "spin"])
        self.assertEqual(told(bench, "table push 1", "show X", "all"), ["push", "-1:0 1:1.2", "push spin X"])

    def test_times_and_swap(self):
        bench = bench_of(f"table push {PUSH}", "sum X push 1:0", "sum P push 1:1")
        self.assertEqual(told(bench, "times A X P", "times B P X", "swap C P X", "swap D X X"), ["A", "B", "C", "D"])
        self.assertEqual(told(bench, "show A", "show B", "show C", "show D"), ["1:0.1", "-1:e 1:0.1", "-1:e", "0"])
        self.assertEqual(told(bench, "of A", "of D"), ["push", "push"])

    def test_mix(self):
        bench = bench_of(f"table push {PUSH}", "sum X push 1:0 2:e", "sum P push 1:1 -1:e")
        for text, wanted in (
            ("2", "1:0 2:1"), ("-1/2", "5/2:e 1:0 -1/2:1"), ("0", "2:e 1:0"), ("999999999", "-999999997:e 1:0 999999999:1"),
            ("1/999999999", "1999999997/999999999:e 1:0 1/999999999:1"), ("-1", "3:e 1:0 -1:1"),
        ):
            self.assertEqual(told(bench, f"mix M X {text} P", "show M", "of M"), ["M", wanted, "push"])
        self.assertEqual(told(bench, "mix M X -1 X", "show M"), ["M", "0"])

    def test_even_uneven_back(self):
        bench = bench_of(f"table spin {SPIN}", "sum A spin 1:0.1 2:2", "even E A", "uneven U A", "back B A", "even V U", "uneven W E")
        table = read_table(SPIN)
        total = read_sum("1:0.1 2:2", 3)
        for sign, made in (("E", even_of), ("U", uneven_of), ("B", turned_back)):
            self.assertEqual(bench.tell(f"show {sign}"), sum_text(made(table, total)))
            self.assertEqual(bench.tell(f"of {sign}"), "spin")
        self.assertEqual(told(bench, "show V", "show W"), ["2:2 1:0.1", "2:2 1:0.1"])
        self.assertEqual(told(bench, "back B B", "show B"), ["B", "2:2 1:0.1"])
        self.assertEqual(told(bench, "even E A", "uneven U A", "back B A"), ["E", "U", "B"])

    def test_the_new_sign_may_be_one_of_the_others(self):
        start = (f"table push {PUSH}", "sum X push 1:0", "sum P push 1:1")
        for line, sign, wanted in (
            ("times X X P", "X", "1:0.1"), ("times P X P", "P", "1:0.1"), ("times X X X", "X", "1:0.0"), ("swap X X P", "X", "1:e"),
            ("swap P X P", "P", "1:e"), ("swap P P P", "P", "0"), ("mix X X 2 P", "X", "1:0 2:1"), ("mix P X 2 P", "P", "1:0 2:1"),
            ("mix X X 2 X", "X", "3:0"), ("even X X", "X", "1:0"), ("uneven P P", "P", "1:1"),
        ):
            bench = bench_of(*start)
            before = seen(bench)
            self.assertEqual(told(bench, line, f"show {sign}", "all"), [sign, wanted, "push P X"])
            self.assertEqual(bench.tell("undo"), line.split(" ")[0])
            self.assertEqual(seen(bench), before)

    def test_a_sign_that_belongs_elsewhere(self):
        bench = bench_of(f"table push {PUSH}", f"table spin {SPIN}", "sum A push 1:0", "sum S spin 1:0", "times A S S")
        self.assertEqual(told(bench, "of A", "show A", "drop push", "all"), ["spin", "1:0.0", "push", "spin A S"])

    def test_drop(self):
        bench = bench_of(f"table a {PUSH}", f"table b {PUSH}", "sum A a 1:0", "sum B b 1:0", "sum C a 1:1")
        before = seen(bench)
        self.assertEqual(told(bench, "drop A", "all"), ["A", "a b B C"])
        self.assertEqual(told(bench, "drop a", "all"), ["a", "b B"])
        self.assertEqual(told(bench, "drop b", "all"), ["b", ""])
        self.assertEqual(told(bench, "undo", "undo", "undo"), ["drop", "drop", "drop"])
        self.assertEqual(seen(bench), before)

    def test_names_like_first_words(self):
        bench = bench_of("table table 2", "table undo 1", "table all 2", "sum ALL all 1:0")
        self.assertEqual(told(bench, "all", "show table", "drop undo", "show all", "of ALL"), ["all table undo ALL", "2", "undo", "2", "all"])


class Undo(Case):
    def test_of_each_deed(self):
        start = [f"table a {SPIN}", "table b 2", "sum A a 1:0.1", "sum B a 1:2", "sum C b 1:1"]
        for line in (
            "table c 4", "table a 2", f"table a {SPIN}", "sum D a 1:1", "sum A b 1:1", "times D A B", "times A A B", "swap D A B", "mix D A 2 B",
            "mix B A 2 B", "even D A", "even A A", "uneven D A", "back D A", "back A A", "drop a", "drop b", "drop A", "drop C",
        ):
            bench = bench_of(*start)
            before = seen(bench)
            bench.tell(line)
            self.assertNotEqual(seen(bench), before)
            self.assertEqual(bench.tell("undo"), line.split(" ")[0])
            self.assertEqual(seen(bench), before)
            # What was taken back may be done again, and what came ahead of it is taken back next.
            after = bench.tell(line)
            self.assertEqual(after, line.split(" ")[1])
            self.assertEqual(told(bench, "undo", "undo", "undo"), [line.split(" ")[0], "sum", "sum"])
            self.assertEqual(bench.tell("all"), "a b A")

    def test_several_in_a_row(self):
        lines = [f"table a {PUSH}", "sum A a 1:0", "sum B a 1:1", "times C A B", "mix C C 2 A", "drop B", "even C C", "table a 2", "drop a"]
        bench = Bench()
        states = [seen(bench)]
        for line in lines:
            bench.tell(line)
            states.append(seen(bench))
        for line, state in zip(lines[::-1], states[-2::-1]):
            self.assertEqual(bench.tell("undo"), line.split(" ")[0])
            self.assertEqual(seen(bench), state)
        self.refused(bench.tell, ("undo",), NoDeed)

    def test_a_deed_that_changes_nothing_to_be_seen(self):
        bench = bench_of("table a 2", "sum A a 1:0", "sum A a 1:0", "table a 2", "table a 2")
        self.assertEqual(told(bench, "undo", "all", "undo", "all", "undo", "all", "undo", "all", "undo", "all"), [
            "table", "a", "table", "a A", "sum", "a A", "sum", "a", "table", "",
        ])

    def test_behind_a_question_and_a_refused_line(self):
        bench = bench_of("table a 2", "sum A a 1:0")
        told(bench, "show a", "show A", "rule a", "of A", "passes A A", "parts A", "all")
        for line in ("", "table a 0", "sum A a 1:0 1:0", "times A A B", "drop b", "undo undo", "sum B c 0"):
            self.assertRaises(SwapError, bench.tell, line)
        self.assertEqual(told(bench, "undo", "all", "show a", "undo", "all"), ["sum", "a", "2", "table", ""])
        self.refused(bench.tell, ("undo",), NoDeed)

    def test_none_left(self):
        bench = Bench()
        self.refused(bench.tell, ("undo",), NoDeed)
        self.assertEqual(bench.tell("all"), "")
        told(bench, "table a 1", "undo")
        self.refused(bench.tell, ("undo",), NoDeed)
        self.assertEqual(told(bench, "table b 1", "all", "undo", "all"), ["b", "b", "table", ""])
        self.refused(bench.tell, ("undo",), NoDeed)

    def test_deeds_behind_one_that_was_taken_back(self):
        bench = bench_of("table a 2", "sum A a 1:0", "sum B a 1:1", "undo", "sum C a 1:0.1", "drop A", "undo", "undo", "sum D a 1:e")
        self.assertEqual(told(bench, "all", "undo", "all", "undo", "all", "undo", "all"), ["a A D", "sum", "a A", "sum", "a", "table", ""])

    def test_two_benches(self):
        one, other = bench_of("table a 2", "sum A a 1:0"), bench_of("table b 3")
        self.assertEqual(told(one, "all") + told(other, "all"), ["a A", "b"])
        self.assertEqual(told(other, "undo", "all"), ["table", ""])
        self.assertEqual(told(one, "all", "undo", "all"), ["a A", "sum", "a"])
        self.refused(other.tell, ("undo",), NoDeed)


class Questions(Case):
    def test_show(self):
        bench = bench_of(f"table push {PUSH}", "sum X push 5:1.0")
        self.assertEqual(told(bench, "show push", "show X"), [PUSH, "-5:e 5:0.1"])

    def test_rule(self):
        bench = bench_of(f"table a {PUSH}", f"table b {RING}", "table c 4 1,2=1*3 1,3=1*1+1*e 2,3=1*2", "table d 6 0,1=1*1 3,4=1*4 4,5=1*0+2*e")
        self.assertEqual(told(bench, "rule a", "rule b", "rule c", "rule d"), ["keeps", "breaks 0 1 2", "breaks 1 2 3", "breaks 1 4 5"])

    def test_passes(self):
        bench = bench_of(f"table s {SPIN}", "sum A s 1:0", "sum B s 1:1", "sum M s -2:0 1:0.0 4:1.2", "sum Z s 0")
        self.assertEqual(told(bench, "passes A B", "passes A A", "passes M A", "passes B M", "passes Z B"), ["no", "yes", "yes", "yes", "yes"])

    def test_parts(self):
        bench = bench_of(f"table s {SPIN}", "sum A s 1:0", "sum B s 1:0.1", "sum Z s 0", "sum E s 3:e", "sum F s 1:1.0", "sum G s 1:0.0.0.0.0")
        self.assertEqual(told(bench, "parts A", "parts B", "parts Z", "parts E", "parts F", "parts G"), ["2", "4", "0", "1", "6", "6"])

    def test_all(self):
        bench = Bench()
        self.assertEqual(bench.tell("all"), "")
        told(bench, "table b 2", "table ab 2", "table a 2", "table z 1", "sum Z b 0", "sum AB b 0", "sum A z 0", "sum B a 0")
        self.assertEqual(bench.tell("all"), "a ab b z A AB B Z")
        told(bench, "drop z", "drop ab")
        self.assertEqual(bench.tell("all"), "a b AB B Z")

    def test_questions_are_no_deeds(self):
        bench = bench_of("table a 2", "sum A a 1:0")
        before = seen(bench)
        for line in ("show a", "show A", "rule a", "of A", "passes A A", "parts A", "all"):
            first = bench.tell(line)
            self.assertEqual(bench.tell(line), first)
            self.assertEqual(seen(bench), before)
        self.assertEqual(told(bench, "undo", "undo"), ["sum", "table"])


class Model:
    """What a bench must answer, by the functions: states are kept whole, one behind the other."""

    def __init__(self):
        self.states = [("", {}, {})]

    def tell(self, line):
        word, *rest = line.split(" ")
        _, tables, sums = self.states[-1]
        if word == "undo":
            if len(self.states) == 1:
                raise NoDeed("none")
            return self.states.pop()[0]
        if word in ("show", "rule", "of", "passes", "parts", "all"):
            return self.asked(word, rest, tables, sums)
        tables, sums = dict(tables), dict(sums)
        self.done(word, rest, tables, sums)
        self.states.append((word, tables, sums))
        return rest[0]

    def asked(self, word, rest, tables, sums):
        if word == "all":
            return " ".join(sorted(tables) + sorted(sums))
        for one in rest:
            if one not in {"rule": tables, "show": {**tables, **sums}}.get(word, sums):
                raise NoName(one)
        if word == "show":
            return table_text(tables[rest[0]]) if rest[0] in tables else sum_text(sums[rest[0]][1])
        if word == "rule":
            found = tables[rest[0]].breaks()
            return "keeps" if found is None else "breaks %d %d %d" % found[:3]
        name, total = sums[rest[0]]
        if word == "of":
            return name
        if word == "parts":
            return str(len(parted(tables[name], total)))
        if sums[rest[1]][0] != name:
            raise NoMatch("unlike")
        return "yes" if passes(tables[name], total, sums[rest[1]][1]) else "no"

    def done(self, word, rest, tables, sums):
        if word in ("table", "drop"):
            name = rest[0]
            if word == "drop" and name not in tables and name not in sums:
                raise NoName(name)
            made = read_table(" ".join(rest[1:])) if word == "table" else None
            for sign in [sign for sign in sums if sign == name or sums[sign][0] == name]:
                sums.pop(sign)
            tables.pop(name, None)
            if word == "table":
                tables[name] = made
            return
        if word == "sum":
            if rest[1] not in tables:
                raise NoName(rest[1])
            sums[rest[0]] = (rest[1], risen(tables[rest[1]], read_sum(" ".join(rest[2:]), tables[rest[1]].count)))
            return
        signs = [rest[1], rest[3]] if word == "mix" else rest[1:]
        for one in signs:
            if one not in sums:
                raise NoName(one)
        names = [sums[one][0] for one in signs]
        if names[0] != names[-1]:
            raise NoMatch("unlike")
        table, totals = tables[names[0]], [sums[one][1] for one in signs]
        if word == "mix":
            made = sum_of(add_terms((1, totals[0]), (Fraction(rest[2]), totals[1])))
        else:
            by = {"times": product, "swap": swap_of, "even": even_of, "uneven": uneven_of, "back": turned_back}[word]
            made = by(table, *totals)
        sums[rest[0]] = (names[0], made)


def mixed_line(salt):
    """A line that may stand or be refused."""
    word, a, b, c, d, e = drawn(salt, 6, 10 ** 6)
    names, signs = ["a", "b", "c"], ["A", "B", "C", "D"]
    tables = [PUSH, SPIN, RING, "1", "2", "2 0,1=1*1", "4 0,1=-1/2*2", "3 0,1=1*2"]
    sums = ["1:0", "1:1", "-1/2:e 3:1.0", "0", "1:0.0 1:1", "1:1.1.0", "2:2.1.0", "1:3"]
    first = WORDS[word % len(WORDS)] if word % 3 else ("sum", "times", "mix", "table")[word // 3 % 4]
    return {
        "table": f"table {names[a % 3]} {tables[b % 8]}",
        "sum": f"sum {signs[a % 4]} {names[b % 3]} {sums[c % 8]}",
        "mix": f"mix {signs[a % 4]} {signs[b % 4]} {['2', '-1/3', '0', '-1'][c % 4]} {signs[d % 4]}",
        "times": f"times {signs[a % 4]} {signs[b % 4]} {signs[c % 4]}", "swap": f"swap {signs[a % 4]} {signs[b % 4]} {signs[c % 4]}",
        "passes": f"passes {signs[a % 4]} {signs[b % 4]}", "undo": "undo", "all": "all",
        "drop": f"drop {(names + signs)[a % 7]}" if b % 3 == 0 else "undo", "show": f"show {(names + signs)[a % 7]}",
        "rule": f"rule {names[a % 3]}", "of": f"of {signs[a % 4]}", "parts": f"parts {signs[a % 4]}",
    }.get(first, f"{first} {signs[a % 4]} {signs[b % 4]}")


class MixedLines(Case):
    def test_as_the_functions_tell(self):
        counts = {}
        for start in range(12):
            bench, model = Bench(), Model()
            for line in ("table a 2 0,1=1*e", f"table b {SPIN}", "sum A a 1:0", "sum B b 1:1", "sum C b 1:2 1:e"):
                self.assertEqual(bench.tell(line), model.tell(line))
            for turn in range(120):
                line = mixed_line(start * 1000 + turn)
                wanted = answer_of(model, line)
                self.assertEqual(answer_of(bench, line), wanted, line)
                self.assertEqual(seen(bench), seen(model))
                key = wanted[0] if wanted[0] != "told" else line.split(" ")[0]
                counts[key] = counts.get(key, 0) + 1
        self.assertTrue({*WORDS, "NoName", "NoMatch", "NoText", "TooLong", "Broken", "NotBare"} <= set(counts), counts)

    def test_long_sums(self):
        tall = 10 ** 9 - 1
        bench, total = bench_of(f"table s {SPIN}", f"sum A s {tall}:0 1/{tall - 1}:1", "sum B s 1:0.1"), [((0,), (tall, 1)), ((1,), (1, tall - 1))]
        table = read_table(SPIN)
        made = read_sum("1:0.1", 3)
        for _ in range(3):
            bench.tell("times B A B")
            made = product(table, total, made)
            self.assertEqual(bench.tell("show B"), sum_text(made))
        bench.tell(f"mix B B -1/{tall} B")
        made = [(word, number(worth(one) * (1 - Fraction(1, tall)))) for word, one in made]
        self.assertEqual(bench.tell("show B"), sum_text(made))


def answer_of(one, line):
    """What is told, or the class and fields of what it is refused with."""
    try:
        return ("told", one.tell(line))
    except SwapError as error:
        return (error.__class__.__name__, vars(error))


if __name__ == "__main__":
    unittest.main()
