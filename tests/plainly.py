"""What the document says, taken from the bits of a table alone, and tables to try it with."""

from fractions import Fraction
from functools import lru_cache
from itertools import product

from bitshades.making import drawn_table, sum_table
from bitshades.parting import with_turned_bit
from bitshades.tables import Table


def ones_in(number):
    """The number of bits 1 of an integer."""
    return number.bit_count()


def places_in(chosen):
    return [place for place in range(12) if chosen // 2**place % 2]


def within(part, chosen):
    return all(place in places_in(chosen) for place in places_in(part))


def sign(number):
    """The sign of a number of bits 1."""
    return -1 if number % 2 else 1


def told(value):
    """The number as a ratio."""
    value = Fraction(value)
    return (value.numerator, value.denominator)


@lru_cache(maxsize=None)
def scores_of(bits):
    scores = []
    for chosen in range(len(bits)):
        scores.append(sum(sign(bit + ones_in(word & chosen)) for word, bit in enumerate(bits)))
    return tuple(scores)


def hand_scores(table):
    return list(scores_of(table.bits))


def hand_shades(table):
    return [Fraction(item, 2**table.width) for item in hand_scores(table)]


def sums_of(words):
    """All sums of any number of the words, ascending."""
    reached = {0}
    for word in words:
        reached |= {word ^ other for other in reached}
    return sorted(reached)


def sets_across(width, words):
    return [chosen for chosen in range(2**width) if all(ones_in(chosen & word) % 2 == 0 for word in words)]


def flipped(word, place):
    """The word turned at the place."""
    return word - 2**place if word // 2**place % 2 else word + 2**place


def gathered(chosen, word):
    """The word that the word gathers to by the set."""
    return sum(word // 2**place % 2 * 2**index for index, place in enumerate(places_in(chosen)))


def sets_of_size(width, size):
    return [chosen for chosen in range(2**width) if ones_in(chosen) == size]


def turning(table, place):
    """The words that turn the table at the place."""
    return [word for word in range(len(table)) if table.bits[word] != table.bits[flipped(word, place)]]


def counting(table):
    """The places that count."""
    return [place for place in range(table.width) if turning(table, place)]


def sum_breaks(table):
    """How many pairs of words break the table."""
    bits = table.bits
    words = range(len(bits))
    return len([1 for x in words for y in words if (bits[x] + bits[y]) % 2 != bits[x ^ y]])


def number_of(table):
    return sum(2**word for word, bit in enumerate(table.bits) if bit)


def all_tables(width):
    return [Table(width, bits) for bits in product((0, 1), repeat=2**width)]


def odd_tables(width):
    """Constant tables, sum-tables as they are, with a bit turned and with all bits turned, one bit 1, and mixed ones."""
    last = 2**width - 1
    whole = sum_table(width, last)
    some = sum_table(width, last // 3 * 2)
    return [
        sum_table(width, 0), ~sum_table(width, 0), whole, ~whole, some, ~some, with_turned_bit(whole, last // 2),
        with_turned_bit(some, 0), ~with_turned_bit(some, last), with_turned_bit(sum_table(width, 0), last),
        drawn_table(width, 11), drawn_table(width, 1234 + width), drawn_table(width, 77777),
    ]


def some_tables(least=0, greatest=6):
    """All tables up to width 2 and odd ones of the other widths."""
    tables = []
    for width in range(least, greatest + 1):
        tables += all_tables(width) if width <= 2 else odd_tables(width)
    return tables


def some_rows(width):
    """Rows of words: none, one, several times the same, linked ones, and 64."""
    last = 2**width - 1
    rows = [[], [0], [last], [0, 0], [last, last, 0, last], [last // 3, last // 2], [1 & last, 2 & last, 3 & last]]
    rows += [[2**place for place in range(width)], [(7 * index * index) & last for index in range(64)], [last] * 64]
    rows += [[5 & last, 6 & last, 3 & last, 5 & last], [(2 * index) & last for index in range(64)]]
    return rows
