"""table_text, sum_text, read_table, read_sum: texts told and read again, and the first word that is none."""

import itertools
import unittest

from reckon import BREAKS, I, KEEPS, N, Case, drawn, field_of, is_plain_sum, mixed_leavings, mixed_sum, nums, table_of, word_key
from swaprest.errors import NoText
from swaprest.tables import Table
from swaprest.texts import read_sum, read_table, sum_text, table_text

TABLE = "3 0,1=1*2 0,2=-1/2*0+-3*1+5*e"
SUM = "-3/4:e 2:1.0.2"
NINE = 999999999
WHOLE_NINE = 10 ** 8

# Texts in the stead of a number other than nought as point 35 writes it.
NO_NUMBER_TEXTS = (
    "", "0", "-0", "+1", "+", "-", "--1", "-+1", "1-", "01", "00", "-01", "007", "1/1", "-1/1", "1/0", "0/1", "0/2", "-0/2", "1/", "/2", "/",
    "1/-2", "-1/-2", "1/+2", "1/02", "01/2", "2/4", "6/3", "-2/4", "10/5", "1/2/3", "1//2", "1.0", "1.5", "1e2", "a", "e", "x1", "1x", "0x1",
    "1_0", "1,0", "1;", "!", "~", "1000000000", "-1000000000", "1234567890", "1/1000000000", "1000000000/3", "9999999999/2", "1/2000000001",
    "0000000001", "(1)", "1'", "12345678901234567890/7", "=", ":", "1:", "1=", "1/2:",
)
NUMBER_TEXTS = {
    "1": I, "-1": (-1, 1), "7": (7, 1), "10": (10, 1), "1/2": (1, 2), "-3/4": (-3, 4), "999999999": (NINE, 1), "-999999999": (-NINE, 1),
    "100000000": (WHOLE_NINE, 1), "1/999999999": (1, NINE), "-999999998/999999999": (1 - NINE, NINE), "999999999/2": (NINE, 2),
    "123456789/100000000": (123456789, WHOLE_NINE),
}
NO_WAYS = ("", "3", "4", "9", "-1", "-0", "00", "01", "1.", "+1", "a", "E", "ee", "1e", "1/1", "1 ".strip() + "_", "10", "0x0", "12345678901")


def reread(text):
    return table_text(read_table(text))


class TableText(Case):
    def test_written_out(self):
        table = Table(3, [(0, 1, nums(0, 0, 1, 0)), (0, 2, [(-1, 2), (-3, 1), N, (5, 1)])])
        self.assertEqual(self.ask(table_text, table), TABLE)
        self.assertEqual(self.ask(table_text, Table(1, [])), "1")
        self.assertEqual(self.ask(table_text, Table(6, [])), "6")
        self.assertEqual(self.ask(table_text, Table(2, [(0, 1, nums(0, 0, 0))])), "2")
        self.assertEqual(self.ask(table_text, Table(2, [(0, 1, [N, N, (-7, 3)])])), "2 0,1=-7/3*e")

    def test_order(self):
        table = Table(4, [(2, 3, nums(0, 1, 0, 0, 0)), (0, 3, nums(0, 0, 0, 2, 9)), (0, 1, nums(1, 0, 0, 0, 0))])
        self.assertEqual(self.ask(table_text, table), "4 0,1=1*0 0,3=2*3+9*e 2,3=1*1")

    def test_told_and_read_again(self):
        tables = list(KEEPS.values()) + list(BREAKS.values()) + [(count, mixed_leavings(count, salt)) for count in range(2, 7) for salt in range(4)]
        for count, leavings in tables:
            text = self.ask(table_text, Table(count, leavings))
            told = read_table(text)
            self.assertEqual((told.count, told.leavings), (count, field_of(leavings)))

    def test_long_numbers(self):
        tall = 10 ** 999 + 7
        self.assertEqual(self.ask(table_text, Table(2, [(0, 1, [(-tall, 3), N, (1, tall)])])), f"2 0,1=-{tall}/3*0+1/{tall}*e")


class SumText(Case):
    def test_written_out(self):
        self.assertEqual(self.ask(sum_text, [((), (-3, 4)), ((1, 0, 2), (2, 1))]), SUM)
        self.assertEqual(self.ask(sum_text, []), "0")
        self.assertEqual(self.ask(sum_text, [((), I)]), "1:e")
        self.assertEqual(self.ask(sum_text, [((5,), (-1, 2)), ((0, 0, 0, 0, 5), I)]), "-1/2:5 1:0.0.0.0.5")

    def test_told_and_read_again(self):
        for count in range(1, 7):
            for salt in range(8):
                total = mixed_sum(count, 5, 12, salt)
                self.assertEqual(self.ask(read_sum, self.ask(sum_text, total), count), total)

    def test_long_numbers(self):
        tall = 10 ** 999 + 7
        self.assertEqual(self.ask(sum_text, [((0,), (-tall, 3)), ((1,), (1, tall))]), f"-{tall}/3:0 1/{tall}:1")


class ReadTable(Case):
    def wrong(self, text, at):
        self.refused(read_table, (text,), NoText, at=at)

    def test_written_out(self):
        told = self.ask(read_table, TABLE)
        self.assertIs(told.__class__, Table)
        self.assertEqual(told.count, 3)
        self.assertEqual(told.leavings, ((0, 1, (N, N, I, N)), (0, 2, ((-1, 2), (-3, 1), N, (5, 1)))))
        for count in range(1, 7):
            told = self.ask(read_table, f"{count}")
            self.assertEqual((told.count, told.leavings), (count, ()))

    def test_pairs_and_terms_in_any_order(self):
        for pairs in itertools.permutations(["0,1=1*2", "0,2=", "1,2=4*0"]):
            for terms in itertools.permutations(["-1/2*0", "-3*1", "5*e"]):
                words = [word + "+".join(terms) if word.endswith("=") else word for word in pairs]
                self.assertEqual(reread(" ".join(["3"] + words)), "3 0,1=1*2 0,2=-1/2*0+-3*1+5*e 1,2=4*0")

    def test_numbers(self):
        for text, one in NUMBER_TEXTS.items():
            self.assertEqual(self.ask(read_table, f"2 0,1={text}*1").leavings, ((0, 1, (N, one, N)),))
            self.assertEqual(self.ask(read_table, f"2 0,1=1*0+{text}*e").leavings, ((0, 1, (I, N, one)),))

    def test_no_counts(self):
        for wrong in ("", "0", "7", "8", "10", "-1", "-0", "+1", "01", "1/1", "2/1", "1.0", "a", "e", "one", "0,1=1*e", "1000000000", "60", "~", "_"):
            self.wrong(wrong, 0)
            self.wrong(wrong + " 0,1=1*e", 0)
            self.wrong(wrong + " wrong", 0)

    def test_blanks(self):
        self.wrong("", 0)
        self.wrong(" ", 0)
        self.wrong("  ", 0)
        self.wrong(" 3", 0)
        self.wrong("3 ", 1)
        self.wrong("3  0,1=1*2", 1)
        self.wrong("3 0,1=1*2 ", 2)
        self.wrong("3 0,1=1*2  0,2=1*1", 2)
        self.wrong(" " + TABLE, 0)
        self.wrong(TABLE + " ", 3)
        self.wrong("3 0,1= 1*2", 1)
        self.wrong("3 0,1=1*2+ 1*1", 1)
        self.wrong("3 0, 1=1*2", 1)

    def wrong_words(self):
        """Words that are no pair of a table of three ways with terms."""
        found = ["", "e", "0", "0,1", "0,1=", "=", ",=", "0,=1*0", ",1=1*0", "=1*0", "0=1*0", "01=1*0", "0,1,2=1*0", "0;1=1*0", "0.1=1*0", "1*0"]
        found += ["1,0=1*0", "1,1=1*0", "0,0=1*0", "2,1=1*0", "2,0=1*0", "0,1==1*0", "=0,1=1*0", "0,1=1*0=", "0,1:1*0", "0,1=1*0,", "0,e=1*0", "e,1=1*0"]
        found += [f"0,{way}=1*0" for way in NO_WAYS] + [f"{way},2=1*0" for way in NO_WAYS]
        found += [f"0,1={one}*0" for one in NO_NUMBER_TEXTS] + [f"0,1=1*0+{one}*1" for one in NO_NUMBER_TEXTS]
        found += [f"0,1={one}*e" for one in NO_NUMBER_TEXTS] + [f"0,1={one}*1+1*e" for one in NO_NUMBER_TEXTS]
        found += [f"0,1=1*{way}" for way in NO_WAYS] + [f"0,1=1*2+1*{way}" for way in NO_WAYS] + [f"0,1=1*{way}+1*2" for way in NO_WAYS]
        found += ["0,1=+1*0", "0,1=1*0+", "0,1=1*0++1*1", "0,1=1*0-1*1", "0,1=1*0+-", "0,1=1*0 +1*1".replace(" ", ";"), "0,1=1**0", "0,1=*0", "0,1=1*"]
        found += ["0,1=1*0*1", "0,1=1", "0,1=e", "0,1=*e", "0,1=*", "0,1=+", "0,1=1*0+1*0", "0,1=1*e+1*e", "0,1=1*0+1*1+-1*0", "0,1=1*2+1*e+3*2"]
        found += ["0,1=1*0+1", "0,1=1+1*0", "0,1=1*0,1", "0,1=1*0/2", "0,1=1 *0".replace(" ", "_"), "0,1=1*e*e", "0,1=1e", "0,1=1:0", "1=0,1*0"]
        return found

    def test_wrong_words_first_in_the_middle_and_last(self):
        for word in self.wrong_words():
            if word.startswith("0,1="):
                ahead = ["0,2=1*e", "1,2=-1/2*0+3*1"]
            else:
                ahead = ["0,1=1*2", "1,2=-1/2*0+3*1"]
            for at in range(3):
                words = ahead[:at] + [word] + ahead[at:]
                self.wrong(" ".join(["3"] + words), at + 1)
                self.wrong(" ".join(["3"] + words + ["wrong", ""]), at + 1)

    def test_pairs_twice(self):
        self.wrong("3 0,1=1*2 0,1=1*2", 2)
        self.wrong("3 0,1=1*2 0,2=1*2 0,1=1*e", 3)
        self.wrong("3 0,1=1*2 0,1=1*2 wrong", 2)
        self.wrong("3 0,1=1*2 wrong 0,1=1*2", 2)

    def test_ways_hang_on_the_count(self):
        for count in range(1, 7):
            self.wrong(f"{count} 0,{count}=1*0", 1)
            if count > 1:
                self.wrong(f"{count} 0,1=1*{count}", 1)
                last = f"{count} 0,{count - 1}=1*{count - 1}"
                self.assertEqual(reread(last), last)

    def test_the_widest(self):
        words = [f"{i},{j}=" + "+".join(f"-1/{k + 2}*{k}" for k in range(4)) for i, j in itertools.combinations(range(6), 2)]
        text = " ".join(["6"] + words)
        self.assertLessEqual(len(text), 800)
        self.assertEqual(reread(text), text)
        self.assertEqual(reread(" ".join(["6"] + words[::-1])), text)


class ReadSum(Case):
    def wrong(self, text, at, count=3):
        self.refused(read_sum, (text, count), NoText, at=at)

    def test_written_out(self):
        self.assertEqual(self.ask(read_sum, SUM, 3), [((), (-3, 4)), ((1, 0, 2), (2, 1))])
        self.assertEqual(self.ask(read_sum, "0", 3), [])
        self.assertEqual(self.ask(read_sum, "1:0.0.0.0.0", 1), [((0,) * 5, I)])

    def test_terms_in_any_order(self):
        terms = ["1:e", "2:2", "-1/3:0.1", "5:1.0", "7:0.0.0"]
        wanted = [((), I), ((2,), (2, 1)), ((0, 1), (-1, 3)), ((1, 0), (5, 1)), ((0, 0, 0), (7, 1))]
        for order in itertools.permutations(terms):
            self.assertEqual(self.ask(read_sum, " ".join(order), 3), wanted)
        for salt in range(5):
            total = mixed_sum(6, 5, 20, salt)
            mixed = [term for _, term in sorted(zip(drawn(salt, len(total), 1000), total))]
            told = read_sum(sum_text(mixed), 6)
            self.assertTrue(is_plain_sum(told, 6))
            self.assertEqual(told, sorted(total, key=lambda term: word_key(term[0])))

    def test_numbers(self):
        for text, one in NUMBER_TEXTS.items():
            self.assertEqual(self.ask(read_sum, f"{text}:e", 2), [((), one)])
            self.assertEqual(self.ask(read_sum, f"1:e {text}:1.0", 2), [((), I), ((1, 0), one)])

    def test_blanks(self):
        self.wrong("", 0)
        self.wrong(" ", 0)
        self.wrong(" 1:e", 0)
        self.wrong("1:e ", 1)
        self.wrong("1:e  1:0", 1)
        self.wrong("1: e", 0)
        self.wrong("1 :e", 0)
        self.wrong("1:0. 1", 0)

    def test_nothing_stands_alone(self):
        self.wrong("0 1:e", 0)
        self.wrong("1:e 0", 1)
        self.wrong("0 0", 0)
        self.wrong("0 ", 0)
        self.wrong(" 0", 0)
        self.wrong("00", 0)
        self.wrong("-0", 0)
        self.wrong("0:", 0)
        self.wrong("0:e", 0)

    def wrong_words(self):
        """Words that are no term of words of three ways."""
        found = ["", "e", ":", "1", "1:", ":0", ":e", "e:1", "0", "1:0:", "1::0", ":1:0", "1:0:1", "1;0", "1=0", "1*0", "1.0", "0.1:1,1", "1:0,1"]
        found += [f"{one}:0" for one in NO_NUMBER_TEXTS if not one.endswith(":")] + [f"{one}:e" for one in NO_NUMBER_TEXTS if not one.endswith(":")]
        found += [f"1:{way}" for way in NO_WAYS] + [f"1:0.{way}" for way in NO_WAYS] + [f"1:{way}.0.0.0.0" for way in NO_WAYS]
        found += ["1:0.", "1:.0", "1:0..1", "1:.", "1:..", "1:e.0", "1:0.e", "1:e.e", "1:ee", "1:0.0.0.0.0.0", "1:0.1.2.0.1.2.0", "1:0.0.0.0.0.", "1:012"]
        return found

    def test_wrong_words_first_in_the_middle_and_last(self):
        ahead = ["1:2.2", "-1/2:2.1"]
        for word in self.wrong_words():
            for at in range(3):
                words = ahead[:at] + [word] + ahead[at:]
                self.wrong(" ".join(words), at)
                self.wrong(" ".join(words + ["wrong", ""]), at)

    def test_words_twice(self):
        self.wrong("1:e 2:e", 1)
        self.wrong("1:0 -1:0", 1)
        self.wrong("1:0.1 1:1.0 1:0.1 1:e 1:e", 2)
        self.wrong("1:0 1:0 wrong", 1)
        self.wrong("1:0 wrong 1:0", 1)

    def test_ways_hang_on_the_count(self):
        for count in range(1, 7):
            self.wrong(f"1:e 1:{count}", 1, count)
            self.assertEqual(self.ask(read_sum, f"1:{count - 1}", count), [((count - 1,), I)])

    def test_what_is_read_may_be_handed_in(self):
        self.assertEqual(sum_text(read_sum("2:1.0.2 -3/4:e", 3)), SUM)
        self.assertEqual(table_text(table_of("two by two")), "3 0,1=2*1 0,2=-2*2 1,2=1*0")


if __name__ == "__main__":
    unittest.main()
