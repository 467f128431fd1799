"""Tables and sums written as texts, and read."""

from swaprest.errors import NoText
from swaprest.numerals import NOUGHT, is_number
from swaprest.tables import MOST_WAYS, Table
from swaprest.terms import MOST_LONG, told_sum

FIGURES = "0123456789"
MOST_FIGURES = 9
ALONE = "e"
NOTHING = "0"


def number_text(number):
    """A number as it is written."""
    top, bottom = number
    return f"{top}" if bottom == 1 else f"{top}/{bottom}"


def way_text(way, count):
    """A way of so many as it is written; behind the last one the number alone."""
    return ALONE if way == count else f"{way}"


def leaving_text(leaving, count):
    """What is left of two ways as it is written."""
    i, j, row = leaving
    terms = [f"{number_text(one)}*{way_text(way, count)}" for way, one in enumerate(row) if one != NOUGHT]
    return f"{i},{j}=" + "+".join(terms)


def table_text(table):
    """A table as it is written."""
    return " ".join([f"{table.count}"] + [leaving_text(leaving, table.count) for leaving in table.leavings])


def word_text(word):
    """A word of ways as it is written."""
    return ".".join([f"{way}" for way in word]) if word else ALONE


def sum_text(total):
    """A sum as it is written."""
    if not total:
        return NOTHING
    return " ".join([f"{number_text(number)}:{word_text(word)}" for word, number in total])


def read_whole(text):
    """The whole number from 0 on that a text writes, None where it writes none of at most nine figures."""
    if not 1 <= len(text) <= MOST_FIGURES or not all([sign in FIGURES for sign in text]):
        return None
    if text[0] == "0" and text != "0":
        return None
    return int(text)


def read_top(text):
    """The whole number, of either sign, that a text writes, None where it writes none."""
    if not text.startswith("-"):
        return read_whole(text)
    whole = read_whole(text[1:])
    if whole is None or whole == 0:
        return None
    return -whole


def read_number(text):
    """The number that a text writes, None where it writes none of at most nine figures above and nine below."""
    above, stroke, below = text.partition("/")
    top = read_top(above)
    bottom = read_whole(below) if stroke else 1
    if top is None or bottom is None or (stroke and bottom == 1) or not is_number((top, bottom)):
        return None
    return (top, bottom)


def read_way(text, count):
    """The way of so many that a text writes, None where it writes none."""
    way = read_whole(text)
    if way is None or way >= count:
        return None
    return way


def read_part(text, count):
    """The tuple (place in a thing, number) of a term of a table's text, None where it is none."""
    above, star, below = text.partition("*")
    number = read_number(above)
    place = count if below == ALONE else read_way(below, count)
    if number is None or number == NOUGHT or place is None:
        return None
    return (place, number)


def read_row(text, count):
    """The thing that the terms of a text write, None where they write none."""
    row = [NOUGHT] * (count + 1)
    for term in text.split("+"):
        part = read_part(term, count)
        if part is None or row[part[0]] != NOUGHT:
            return None
        row[part[0]] = part[1]
    return row


def read_leaving(text, count):
    """The tuple (i, j, row) that a word of a table's text writes, None where it writes none."""
    pair, equals, terms = text.partition("=")
    one, comma, other = pair.partition(",")
    i, j = read_way(one, count), read_way(other, count)
    row = read_row(terms, count)
    if i is None or j is None or i >= j or row is None:
        return None
    return (i, j, row)


def read_table(text):
    """The table that a text writes."""
    words = text.split(" ")
    count = read_whole(words[0])
    if count is None or not 1 <= count <= MOST_WAYS:
        raise NoText(0)
    held = {}
    for at, word in enumerate(words[1:], start=1):
        leaving = read_leaving(word, count)
        if leaving is None or leaving[:2] in held:
            raise NoText(at)
        held[leaving[:2]] = leaving
    return Table(count, [held[pair] for pair in held])


def read_word(text, count):
    """The word of ways that a text writes, None where it writes none."""
    if text == ALONE:
        return ()
    ways = [read_way(part, count) for part in text.split(".")]
    if None in ways or len(ways) > MOST_LONG:
        return None
    return tuple(ways)


def read_sum(text, count):
    """The sum of words of so many ways that a text writes."""
    if text == NOTHING:
        return []
    held = {}
    for at, term in enumerate(text.split(" ")):
        above, colon, below = term.partition(":")
        number, word = read_number(above), read_word(below, count)
        if number is None or number == NOUGHT or word is None or word in held:
            raise NoText(at)
        held[word] = number
    return told_sum(held)
