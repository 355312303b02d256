"""Tables that are made by a rule (points 19 and 43)."""

from bitshades.checks import (
    check_bit,
    check_bits,
    check_integer,
    check_place,
    check_range,
    check_row,
    check_word,
    check_words,
)
from bitshades.tables import Table
from bitshades.words import (
    MOST_WIDTH,
    all_words,
    bit_at,
    bits_of_word,
    check_width,
    is_within,
    parity,
    size_of,
    word_count,
)

MOST_SEED = 1000000


def constant_table(width, bit):
    """The table with the bit everywhere."""
    check_width(width)
    check_bit(bit, "bit")
    return Table(width, [bit for _ in all_words(width)])


def sum_table(width, chosen):
    """The sum-table of the set."""
    check_width(width)
    check_word(width, chosen, "chosen")
    return Table(width, [parity(width, chosen, word) for word in all_words(width)])


def place_table(width, place, bit=0):
    """The place table of the place with the bit."""
    check_width(width)
    check_place(width, place, "place")
    check_bit(bit, "bit")
    return Table(width, [bit_at(width, word, place) ^ bit for word in all_words(width)])


def product_table(width, chosen):
    """The product table of the set."""
    check_width(width)
    check_word(width, chosen, "chosen")
    return Table(width, [int(is_within(width, chosen, word)) for word in all_words(width)])


def most_table(width):
    """The table with bit 1 at the words with bit 1 at more than half of the places."""
    check_width(width)
    return Table(width, [int(2 * size_of(width, word) > width) for word in all_words(width)])


def size_table(bits):
    """The table whose bit at a word of size s is bits[s]."""
    check_bits(bits, 1, MOST_WIDTH + 1, "bits")
    width = len(bits) - 1
    return Table(width, [bits[size_of(width, word)] for word in all_words(width)])


def weighted_table(weights, bound):
    """The table with bit 1 at the words whose weights add up to more than the bound."""
    check_row(weights, 0, MOST_WIDTH, "weights")
    for weight in weights:
        check_integer(weight, "weights")
    check_integer(bound, "bound")
    width = len(weights)
    return Table(width, [int(weight_at(weights, word) > bound) for word in all_words(width)])


def weight_at(weights, word):
    """The sum of the weights at the places where the word has bit 1."""
    return sum([weight * bit for weight, bit in zip(weights, bits_of_word(len(weights), word))])


def table_of_words(width, words):
    """The table with bit 1 exactly at the words of the row."""
    check_width(width)
    check_words(width, words, "words")
    return Table(width, [int(word in words) for word in all_words(width)])


def early_table(width, count):
    """The table with bit 1 exactly at the words less than count."""
    check_width(width)
    check_range(count, 0, word_count(width), "count")
    return Table(width, [int(word < count) for word in all_words(width)])


def drawn_table(width, seed=0):
    """A table that a fixed rule makes from the seed."""
    check_width(width)
    check_range(seed, 0, MOST_SEED, "seed")
    state = seed
    bits = []
    for _ in all_words(width):
        state = (state * 389 + 271) % 4093
        bits.append((state // 8) % 2)
    return Table(width, bits)
