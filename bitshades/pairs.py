"""Pairs and triples of words that break a table, and sum papers (point 25)."""

from bitshades.checks import check_word, check_word_pairs, is_word
from bitshades.errors import WrongSize
from bitshades.ratios import ratio
from bitshades.shades import scores
from bitshades.tables import check_alike, check_table
from bitshades.words import across, all_words, span

MOST_PAIRS = 256
WIDEST_BY_TRIPLES = 4


def pair_breaks(bits, first, second):
    """True if the pair of words breaks the table of these bits."""
    return bits[first] ^ bits[second] != bits[first ^ second]


def breaks(table, first, second):
    """True if the pair of words breaks the table."""
    check_table(table, "table")
    check_word(table.width, first, "first")
    check_word(table.width, second, "second")
    return pair_breaks(table.bits, first, second)


def row_of_three(first, second, third):
    """For each word x the number of words y such that (x, y) breaks the three tables of these bits."""
    return [len([y for y, bit in enumerate(second) if left ^ bit != third[x ^ y]]) for x, left in enumerate(first)]


def breaking_row(table):
    """The list with, for each word x, the number of words y such that (x, y) breaks the table."""
    check_table(table, "table")
    return row_of_three(table.bits, table.bits, table.bits)


def breaking_count(table):
    """The number of pairs that break the table, by going through them."""
    return sum(breaking_row(table))


def breaking_count_by_scores(table):
    """The number of pairs that break the table, by the cubes of the scores."""
    field = scores(table)
    return count_from_cubes(len(field), sum([item ** 3 for item in field]))


def count_from_cubes(count, total):
    """The number of pairs that break, from the number of words and the sum of the cubes."""
    return (count ** 3 - total) // (2 * count)


def breaking_share(table):
    """The share of all pairs that breaks the table, a ratio."""
    return ratio(breaking_count(table), len(table) ** 2)


def first_breaking_pair(table):
    """The tuple (x, y) with the least x, and for it the least y, that breaks the table, or None."""
    check_table(table, "table")
    for x in range(len(table)):
        for y in range(len(table)):
            if pair_breaks(table.bits, x, y):
                return (x, y)
    return None


def breaking_among(table, pairs):
    """The number of items of the row of pairs that break the table."""
    check_table(table, "table")
    check_word_pairs(table.width, pairs, 0, MOST_PAIRS, "pairs")
    return len([pair for pair in pairs if pair_breaks(table.bits, pair[0], pair[1])])


def check_three_tables(first, second, third):
    """Refuse what are no three tables of one width."""
    check_table(first, "first")
    check_alike(first, second, "second")
    check_alike(first, third, "third")


def three_count(first, second, third):
    """The number of pairs that break the three tables, by going through them."""
    check_three_tables(first, second, third)
    return sum(row_of_three(first.bits, second.bits, third.bits))


def three_count_by_scores(first, second, third):
    """The number of pairs that break the three tables, by the products of their scores."""
    check_three_tables(first, second, third)
    products = [f * g * h for f, g, h in zip(scores(first), scores(second), scores(third))]
    return count_from_cubes(len(first), sum(products))


def span_breaking_share(table, words):
    """The share that breaks among all pairs of the span, a ratio, by the pairs."""
    check_table(table, "table")
    reached = span(table.width, words)
    broken = [(x, y) for x in reached for y in reached if pair_breaks(table.bits, x, y)]
    return ratio(len(broken), len(reached) ** 2)


def span_breaking_share_by_shades(table, words):
    """The share that breaks among all pairs of the span, a ratio, by the classes of sets."""
    check_table(table, "table")
    sums = class_sums(scores(table), across(table.width, words))
    whole = len(table) ** 3
    return ratio(whole - sum([item ** 3 for item in sums]), 2 * whole)


def class_sums(field, sets):
    """The sums of the field over the classes of sets, where `sets` is the class of the empty set."""
    sums = []
    for chosen in range(len(field)):
        members = [chosen ^ other for other in sets]
        # Each class is taken once, by its least set.
        if chosen == min(members):
            sums.append(sum([field[member] for member in members]))
    return sums


def quad_count(table):
    """The number of triples that break the table, by going through them."""
    check_table(table, "table")
    if table.width > WIDEST_BY_TRIPLES:
        raise WrongSize("table")
    bits = table.bits
    words = all_words(table.width)
    return sum([bits[x] ^ bits[y] ^ bits[z] ^ bits[x ^ y ^ z] for x in words for y in words for z in words])


def quad_count_by_scores(table):
    """The number of triples that break the table, by the fourth powers of the scores."""
    field = scores(table)
    return (len(field) ** 4 - sum([item ** 4 for item in field])) // (2 * len(field))


def sum_paper(table):
    """The right sum paper; a ("break", x, y) has the first breaking pair."""
    pair = first_breaking_pair(table)
    if pair is not None:
        return ("break", pair[0], pair[1])
    # The score at a set is the number of words only where the table is its sum-table.
    return ("sum", scores(table).index(len(table)))


def is_sum_paper(table, paper):
    """Judge: True if the paper is a right sum paper of the table."""
    check_table(table, "table")
    if not isinstance(paper, tuple) or len(paper) == 0:
        return False
    if not all([is_word(table.width, item) for item in paper[1:]]):
        return False
    if paper[0] == "sum" and len(paper) == 2:
        return scores(table)[paper[1]] == len(table)
    if paper[0] == "break" and len(paper) == 3:
        return pair_breaks(table.bits, paper[1], paper[2])
    return False
