"""Tables that are made from other tables (points 20 and 33)."""

from bitshades.checks import check_place, check_places, check_word
from bitshades.errors import OutOfRange, WrongSize
from bitshades.tables import Table, check_table
from bitshades.words import (
    MOST_WIDTH,
    add_words,
    all_words,
    check_width,
    gather,
    reorder,
    rest_of,
    size_of,
    spread,
    turn_bit,
    word_of_bits,
)

MOST_BESIDE = 6


def shifted(table, word):
    """The table with the bit of the given one at x + word as its bit at x."""
    check_table(table, "table")
    check_word(table.width, word, "word")
    return Table(table.width, [table[add_words(table.width, x, word)] for x in all_words(table.width)])


def reordered(table, order):
    """The table reordered by the row of all places."""
    check_table(table, "table")
    check_places(table.width, order, table.width, "order")
    return Table(table.width, [table[reorder(table.width, x, order)] for x in all_words(table.width)])


def fixed(table, chosen, values):
    """The table of the other places, with the places of the set fixed to the word values."""
    check_table(table, "table")
    check_word(table.width, chosen, "chosen")
    size = size_of(table.width, chosen)
    check_word(size, values, "values")
    rest = rest_of(table.width, chosen)
    held = spread(table.width, chosen, values)
    return Table(
        table.width - size,
        [table[add_words(table.width, held, spread(table.width, rest, z))] for z in all_words(table.width - size)],
    )


def widened(table, width, chosen):
    """The table of the new width that looks at the places of the set alone."""
    check_table(table, "table")
    check_width(width)
    check_word(width, chosen, "chosen")
    if size_of(width, chosen) != table.width:
        raise OutOfRange("chosen")
    return Table(width, [table[gather(width, chosen, x)] for x in all_words(width)])


def beside(*tables):
    """The tables beside one another, the first one at the lowest places."""
    if len(tables) > MOST_BESIDE:
        raise WrongSize("tables")
    for table in tables:
        check_table(table, "tables")
    width = sum([table.width for table in tables])
    if width > MOST_WIDTH:
        raise WrongSize("tables")
    bits = [0]
    for table in tables:
        bits = [low ^ high for high in table for low in bits]
    return Table(width, bits)


def composed(outer, *inners, width):
    """The outer table at the words that the inner tables answer."""
    check_table(outer, "outer")
    check_width(width)
    if len(inners) != outer.width:
        raise WrongSize("inners")
    for inner in inners:
        check_table(inner, "inners")
        if inner.width != width:
            raise WrongSize("inners")
    return Table(width, [outer[word_of_bits([part[x] for part in inners])] for x in all_words(width)])


def nested_width(outer, inner):
    """The width of the nested table; refuses what are no two tables for one."""
    check_table(outer, "outer")
    check_table(inner, "inner")
    width = outer.width * inner.width
    if width > MOST_WIDTH:
        raise WrongSize("inner")
    return width


def nested(outer, inner):
    """The outer table at the words that the inner table answers, block by block."""
    width = nested_width(outer, inner)
    answers = [[inner[block] for block in blocks_of(x, outer.width, inner.width)] for x in all_words(width)]
    return Table(width, [outer[word_of_bits(bits)] for bits in answers])


def blocks_of(word, count, size):
    """The blocks of that size of the word, the one at the lowest places first."""
    return [(word >> (index * size)) & ((1 << size) - 1) for index in range(count)]


def with_turned_bit(table, word):
    """The table with its bit at the word turned."""
    check_table(table, "table")
    check_word(table.width, word, "word")
    bits = list(table)
    bits[word] = 1 - bits[word]
    return Table(table.width, bits)


def difference_table(table, place):
    """The table with bit 1 at the words that turn the given one at the place."""
    check_table(table, "table")
    check_place(table.width, place, "place")
    return Table(table.width, [table[x] ^ table[turn_bit(table.width, x, place)] for x in all_words(table.width)])
