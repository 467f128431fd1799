"""A bench: it keeps tables by names and sums by signs, and is told lines.

While a line is done, tables are a dict of names with their tables, and sums a dict of
signs, each with a tuple (name, sum): the name to which it belongs.
"""

from swaprest.errors import NoDeed, NoLine, NoMatch, NoName, NoText
from swaprest.passing import passes
from swaprest.sums import even_of, swap_of, turned_back, uneven_of
from swaprest.terms import add_times, held_sum, told_sum
from swaprest.texts import read_number, read_sum, read_table, sum_text, table_text
from swaprest.words import parted, product, risen

SMALL = "abcdefghijklmnopqrstuvwxyz"
CAPITAL = "ABCDEFGHIJKLMNOPQRSTUVWXYZ"
MOST_SIGNS = 8
NUMBER_AT = 3

# How many words a line has, by its first one; of those with a text, this counts as one.
MANY_WORDS = {
    "table": 3, "sum": 4, "times": 4, "swap": 4, "mix": 5, "even": 3, "uneven": 3, "back": 3, "drop": 2, "undo": 1,
    "show": 2, "rule": 2, "of": 2, "passes": 3, "parts": 2, "all": 1,
}
WITH_TEXT = ("table", "sum")


def words_of(line):
    """The words of a line, a text behind them in one; what is no line is refused."""
    words = line.split(" ")
    first = words[0]
    if first not in MANY_WORDS or len(words) < MANY_WORDS[first]:
        raise NoLine("there is no such line")
    ahead = words
    if first in WITH_TEXT:
        ahead = words[:MANY_WORDS[first] - 1]
        words = ahead + [" ".join(words[len(ahead):])]
    if len(words) > MANY_WORDS[first] or "" in ahead:
        raise NoLine("there is no such line")
    return words


def refuse_new(word, signs):
    """Refuse a new name or sign that isn't one to eight of the signs."""
    if not 1 <= len(word) <= MOST_SIGNS or not all([sign in signs for sign in word]):
        raise NoName(word)


def refuse_unknown(held, words):
    """Refuse the first of the words by which nothing stands."""
    for word in words:
        if word not in held:
            raise NoName(word)


def name_of_both(sums, one, two):
    """The name to which two sums belong."""
    refuse_unknown(sums, [one, two])
    if sums[one][0] != sums[two][0]:
        raise NoMatch("the two sums belong to two names")
    return sums[one][0]


def drop_sums(sums, name):
    """Take away all sums that belong to a name."""
    for sign in list(sums):
        if sums[sign][0] == name:
            del sums[sign]


def put_table(tables, sums, words):
    """table NAME TABLE."""
    name = words[1]
    refuse_new(name, SMALL)
    table = read_table(words[2])
    drop_sums(sums, name)
    tables[name] = table
    return name


def put_sum(tables, sums, words):
    """sum SIGN NAME SUM."""
    sign, name = words[1], words[2]
    refuse_new(sign, CAPITAL)
    refuse_unknown(tables, [name])
    total = read_sum(words[3], tables[name].count)
    sums[sign] = (name, risen(tables[name], total))
    return sign


def put_times(tables, sums, words):
    """times SIGN ONE TWO."""
    sign, one, two = words[1], words[2], words[3]
    refuse_new(sign, CAPITAL)
    name = name_of_both(sums, one, two)
    sums[sign] = (name, product(tables[name], sums[one][1], sums[two][1]))
    return sign


def put_swap(tables, sums, words):
    """swap SIGN ONE TWO."""
    sign, one, two = words[1], words[2], words[3]
    refuse_new(sign, CAPITAL)
    name = name_of_both(sums, one, two)
    sums[sign] = (name, swap_of(tables[name], sums[one][1], sums[two][1]))
    return sign


def put_mix(tables, sums, words):
    """mix SIGN ONE NUMBER TWO."""
    sign, one, two = words[1], words[2], words[4]
    refuse_new(sign, CAPITAL)
    name = name_of_both(sums, one, two)
    number = read_number(words[NUMBER_AT])
    if number is None:
        raise NoText(NUMBER_AT)
    count = tables[name].count
    held = held_sum(sums[one][1], count)
    add_times(held, number, held_sum(sums[two][1], count))
    sums[sign] = (name, told_sum(held))
    return sign


def named_sum(sums, words):
    """The tuple (name, sum) of the last word of SIGN ONE, SIGN a new sign."""
    refuse_new(words[1], CAPITAL)
    refuse_unknown(sums, [words[2]])
    return sums[words[2]]


def put_even(tables, sums, words):
    """even SIGN ONE."""
    name, total = named_sum(sums, words)
    sums[words[1]] = (name, even_of(tables[name], total))
    return words[1]


def put_uneven(tables, sums, words):
    """uneven SIGN ONE."""
    name, total = named_sum(sums, words)
    sums[words[1]] = (name, uneven_of(tables[name], total))
    return words[1]


def put_back(tables, sums, words):
    """back SIGN ONE."""
    name, total = named_sum(sums, words)
    sums[words[1]] = (name, turned_back(tables[name], total))
    return words[1]


def refuse_unheld(tables, sums, word):
    """Refuse a word by which neither a table nor a sum stands."""
    if word not in tables and word not in sums:
        raise NoName(word)


def drop(tables, sums, words):
    """drop NAME, drop SIGN."""
    word = words[1]
    refuse_unheld(tables, sums, word)
    if word in tables:
        drop_sums(sums, word)
        del tables[word]
    else:
        del sums[word]
    return word


def show(tables, sums, words):
    """show NAME, show SIGN."""
    word = words[1]
    refuse_unheld(tables, sums, word)
    return table_text(tables[word]) if word in tables else sum_text(sums[word][1])


def rule(tables, sums, words):
    """rule NAME."""
    refuse_unknown(tables, [words[1]])
    found = tables[words[1]].breaks()
    if found is None:
        return "keeps"
    i, j, k, row = found
    return f"breaks {i} {j} {k}"


def name_of(tables, sums, words):
    """of SIGN."""
    refuse_unknown(sums, [words[1]])
    return sums[words[1]][0]


def ask_passes(tables, sums, words):
    """passes ONE TWO."""
    one, two = words[1], words[2]
    name = name_of_both(sums, one, two)
    return "yes" if passes(tables[name], sums[one][1], sums[two][1]) else "no"


def parts(tables, sums, words):
    """parts SIGN."""
    refuse_unknown(sums, [words[1]])
    name, total = sums[words[1]]
    return f"{len(parted(tables[name], total))}"


def all_held(tables, sums, words):
    """all."""
    return " ".join(sorted(tables) + sorted(sums))


DEEDS = {
    "table": put_table, "sum": put_sum, "times": put_times, "swap": put_swap, "mix": put_mix, "even": put_even,
    "uneven": put_uneven, "back": put_back, "drop": drop,
}
QUESTIONS = {
    "show": show, "rule": rule, "of": name_of, "passes": ask_passes, "parts": parts, "all": all_held,
}


class Bench:
    """Keeps tables and sums; past: each deed's first word, with the tables and sums ahead of it."""

    def __init__(self):
        self.tables = {}
        self.sums = {}
        self.past = []

    def tell(self, line):
        """The answer to a line."""
        words = words_of(line)
        if words[0] == "undo":
            return take_back(self)
        if words[0] in QUESTIONS:
            question = QUESTIONS[words[0]]
            return question(self.tables, self.sums, words)
        # A deed is done to copies: a refused one leaves all as it is, a done one is taken back by what it left.
        tables, sums = dict(self.tables), dict(self.sums)
        deed = DEEDS[words[0]]
        answer = deed(tables, sums, words)
        self.past.append((words[0], self.tables, self.sums))
        self.tables, self.sums = tables, sums
        return answer


def take_back(bench):
    """Take back a bench's last deed; its first word."""
    if not bench.past:
        raise NoDeed("there is no deed to take back")
    word, tables, sums = bench.past.pop()
    bench.tables, bench.sums = tables, sums
    return word
