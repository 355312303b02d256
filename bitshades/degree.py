"""Degrees, terms, bit terms and grains (point 36)."""

from math import gcd

from bitshades.checks import check_bits, check_field
from bitshades.errors import NotATable
from bitshades.shades import quick_field, scores, width_of
from bitshades.tables import Table, check_table
from bitshades.words import check_width, size_of, word_count


def greatest_size(field):
    """The greatest size of a set at which the item of the field is not 0; 0 if there is none."""
    width = width_of(field)
    return max([size_of(width, chosen) for chosen, item in enumerate(field) if item != 0], default=0)


def degree(table):
    """The degree of the table, from its scores."""
    return greatest_size(scores(table))


def degree_by_terms(table):
    """The degree of the table, from its terms."""
    return greatest_size(terms(table))


def subset_sums(field, sign):
    """For each set the sum over its subsets of their items, each times the sign once for each place left out."""
    items = list(field)
    for place in range(width_of(field)):
        for chosen in range(len(items)):
            if (chosen >> place) & 1 == 1:
                items[chosen] = items[chosen] + sign * items[chosen ^ (1 << place)]
    return items


def terms(table):
    """The list of the terms of all sets, ascending by set."""
    check_table(table, "table")
    return subset_sums(table.bits, -1)


def table_of_terms(field):
    """The table with these terms."""
    check_field(field, "field")
    bits = subset_sums(field, 1)
    if not all([bit in (0, 1) for bit in bits]):
        raise NotATable()
    return Table(width_of(field), bits)


def bit_terms(table):
    """The list of the bit terms of all sets, ascending by set."""
    return [term % 2 for term in terms(table)]


def table_of_bit_terms(width, bits):
    """The table with these bit terms."""
    check_width(width)
    check_bits(bits, word_count(width), word_count(width), "bits")
    return Table(width, [total % 2 for total in subset_sums(bits, 1)])


def bit_degree(table):
    """The greatest size of a set whose bit term is 1; 0 if there is none."""
    return greatest_size(bit_terms(table))


def grain(table):
    """The greatest common divisor of all scores."""
    divisor = 0
    for item in scores(table):
        divisor = gcd(divisor, item)
    return divisor


def field_degree(field):
    """The greatest size of a set at which the quick field is not 0; 0 for a field of zeros."""
    return greatest_size(quick_field(field))


def power_sums(field):
    """The tuple of the sum of the squares and the sum of the fourth powers of the items."""
    check_field(field, "field")
    return (sum([item ** 2 for item in field]), sum([item ** 4 for item in field]))
