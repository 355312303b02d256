"""How much each place and each set of places counts (point 33)."""

from bitshades.checks import check_fraction, check_place, check_row, check_word
from bitshades.parting import difference_table, fixed
from bitshades.ratios import ratio
from bitshades.shades import scores, squares_at
from bitshades.tables import Table, check_table
from bitshades.words import all_words, bit_at, rest_of, size_of, word_count

MOST_WANTED = 3


def turning_words(table, place):
    """The list of the words that turn the table at the place, ascending."""
    return [word for word, bit in enumerate(difference_table(table, place)) if bit == 1]


def influence(table, place):
    """The influence of the place, a ratio, by words."""
    return ratio(len(turning_words(table, place)), len(table))


def influence_by_scores(table, place):
    """The influence of the place, a ratio, by shades."""
    check_table(table, "table")
    check_place(table.width, place, "place")
    holding = [chosen for chosen in all_words(table.width) if bit_at(table.width, chosen, place) == 1]
    return squares_at(scores(table), holding)


def turning_counts(table):
    """The list of the numbers of words that turn the table at each place."""
    check_table(table, "table")
    return [difference_table(table, place).ones for place in range(table.width)]


def influences(table):
    """The list of the influences of all places, ratios."""
    return [ratio(count, len(table)) for count in turning_counts(table)]


def total_influence(table):
    """The sum of the influences of all places, a ratio."""
    return ratio(sum(turning_counts(table)), len(table))


def places_with(table, counts, wanted):
    """The tuple of the influence with the wanted count and the list of all places that have it."""
    places = [place for place, count in enumerate(counts) if count == wanted]
    return (ratio(wanted, len(table)), places)


def most_influential(table):
    """The tuple of the greatest influence of a place and the list of all places that have it."""
    counts = turning_counts(table)
    return places_with(table, counts, max(counts, default=0))


def least_influential(table):
    """The tuple of the least influence of a place and the list of all places that have it."""
    counts = turning_counts(table)
    return places_with(table, counts, min(counts, default=0))


def variance(table):
    """1 minus the squared shade at the empty set, a ratio."""
    field = scores(table)
    return ratio(len(field) ** 2 - field[0] ** 2, len(field) ** 2)


def sway(table, chosen):
    """The sway of the set, a ratio."""
    check_table(table, "table")
    check_word(table.width, chosen, "chosen")
    rest = rest_of(table.width, chosen)
    settings = all_words(size_of(table.width, rest))
    parts = [fixed(table, rest, values) for values in settings]
    return ratio(len([part for part in parts if 0 < part.ones < len(part)]), len(settings))


def tables_with_influences(wanted):
    """The list of all tables with these influences, one for each place, by ascending numbers."""
    check_row(wanted, 0, MOST_WANTED, "wanted")
    for fraction in wanted:
        check_fraction(fraction, "wanted")
    width = len(wanted)
    told = [ratio(top, bottom) for top, bottom in wanted]
    tables = [Table.of_number(width, number) for number in range(1 << word_count(width))]
    return [table for table in tables if influences(table) == told]
