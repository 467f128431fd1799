"""Gaps: numbers alone that may be laid under a table."""

from swaprest.errors import NoRow, NotGap
from swaprest.numerals import NOUGHT, less, plus
from swaprest.rows import is_row_of, nought_rows, summed
from swaprest.tables import Table, left_by_ways, pairs_of, refuse_broken, triples_of


def refuse_gap(table, gap):
    """Refuse what isn't a row with a number for each two ways."""
    if not is_row_of(gap, len(pairs_of(table.count))):
        raise NoRow(None)


def laid(table, gap):
    """The table with a gap, looked at, in the stead of its numbers alone."""
    by_ways = left_by_ways(table)
    pairs = pairs_of(table.count)
    return Table(table.count, [(i, j, by_ways[(i, j)][:-1] + [alone]) for (i, j), alone in zip(pairs, gap)])


def refuse_broken_bare(table):
    """Refuse a table that, laid under with noughts, breaks the rule."""
    refuse_broken(laid(table, [NOUGHT] * len(pairs_of(table.count))))


def asked_of_gap(table, by_ways, i, j, k):
    """The row whose pairing with a gap is the number alone of the round sum of three ways."""
    places = {pair: place for place, pair in enumerate(pairs_of(table.count))}
    asked = [NOUGHT] * len(places)
    for one, first, second in ((i, j, k), (j, k, i), (k, i, j)):
        for way, number in enumerate(by_ways[(first, second)][:-1]):
            if one < way:
                place = places[(one, way)]
                asked[place] = plus(asked[place], number)
            if way < one:
                place = places[(way, one)]
                asked[place] = less(asked[place], number)
    return asked


def laid_under(table, gap):
    """The table with the gap in the stead of its numbers alone."""
    refuse_gap(table, gap)
    return laid(table, gap)


def gaps(table):
    """The kept rows of all gaps that, laid under the table, make one that keeps the rule."""
    refuse_broken_bare(table)
    by_ways = left_by_ways(table)
    asked = [asked_of_gap(table, by_ways, i, j, k) for i, j, k in triples_of(table.count)]
    return nought_rows(asked, len(pairs_of(table.count)))


def undone(table, gap):
    """("plain", g), g a number for each way that makes the gap, or ("true", a test that none does)."""
    refuse_broken_bare(table)
    refuse_gap(table, gap)
    found = laid(table, gap).breaks()
    if found is not None:
        raise NotGap(found[:3])
    by_ways = left_by_ways(table)
    pairs = pairs_of(table.count)
    word, row = summed([[by_ways[pair][way] for pair in pairs] for way in range(table.count)], gap)
    return ("plain" if word == "sum" else "true", row)
