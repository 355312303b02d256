"""Inner products, foldings, and the scores of the parts of tables (points 23 and 24)."""

from bitshades.checks import check_field, check_places, check_row, check_word
from bitshades.errors import OutOfRange, WrongSize
from bitshades.parting import blocks_of, nested_width
from bitshades.ratios import ratio
from bitshades.shades import scores, stepped_through
from bitshades.tables import check_alike, check_table, sign_of
from bitshades.words import (
    MOST_WIDTH,
    across,
    all_words,
    parity,
    places_of_set,
    rest_of,
    set_of_places,
    size_of,
    span,
    spread,
    subsets,
)


def check_two_fields(first, second):
    """Refuse what are no two fields of one width."""
    check_field(first, "first")
    check_row(second, len(first), len(first), "second")
    check_field(second, "second")


def check_two_tables(first, second):
    """Refuse what are no two tables of one width."""
    check_table(first, "first")
    check_alike(first, second, "second")


def product_sum(first, second):
    """The inner product of two fields that have been checked."""
    return sum([left * right for left, right in zip(first, second)])


def inner_product(first, second):
    """The sum of the products of items at the same index."""
    check_two_fields(first, second)
    return product_sum(first, second)


def folding(first, second):
    """The list of the folding of two fields, each item taken as a sum by itself."""
    check_two_fields(first, second)
    return [sum([item * second[x ^ y] for y, item in enumerate(first)]) for x in range(len(first))]


def quick_folding(first, second):
    """The list of the folding of two fields, by the product of their quick fields."""
    check_two_fields(first, second)
    products = [left * right for left, right in zip(stepped_through(first), stepped_through(second))]
    return [item // len(first) for item in stepped_through(products)]


def agreement(first, second):
    """The number of words with equal bits minus the number of words with unlike bits."""
    check_two_tables(first, second)
    return product_sum(first.signs(), second.signs())


def scores_of_sum(first, second):
    """The list of the scores of the sum of two tables, from their scores."""
    check_two_tables(first, second)
    return [item // len(first) for item in quick_folding(scores(first), scores(second))]


def shifted_scores(table, word):
    """The list of the scores of the shifted table, from those of the table."""
    check_table(table, "table")
    check_word(table.width, word, "word")
    return [item * sign_of(parity(table.width, chosen, word)) for chosen, item in enumerate(scores(table))]


def reordered_scores(table, order):
    """The list of the scores of the reordered table, from those of the table."""
    check_table(table, "table")
    check_places(table.width, order, table.width, "order")
    field = scores(table)
    result = list(field)
    for chosen, item in enumerate(field):
        moved = [order[place] for place in places_of_set(table.width, chosen)]
        result[set_of_places(table.width, moved)] = item
    return result


def fixed_scores(table, chosen, values):
    """The list of the scores of the fixed table, from those of the table."""
    check_table(table, "table")
    width = table.width
    check_word(width, chosen, "chosen")
    size = size_of(width, chosen)
    check_word(size, values, "values")
    field = scores(table)
    held = spread(width, chosen, values)
    signed = [(part, sign_of(parity(width, part, held))) for part in subsets(width, chosen)]
    rest = rest_of(width, chosen)
    kept = [spread(width, rest, word) for word in all_words(width - size)]
    return [sum([sign * field[part | outside] for part, sign in signed]) // (1 << size) for outside in kept]


def beside_scores(first, second):
    """The list of the scores of two tables beside one another, from their scores."""
    check_table(first, "first")
    check_table(second, "second")
    if first.width + second.width > MOST_WIDTH:
        raise WrongSize("second")
    return [low * high for high in scores(second) for low in scores(first)]


def nested_scores(outer, inner):
    """The list of the scores of the nested table, from those of the two tables."""
    width = nested_width(outer, inner)
    inner_field = scores(inner)
    if inner_field[0] != 0:
        raise OutOfRange("inner")
    outer_field = scores(outer)
    cut = [blocks_of(chosen, outer.width, inner.width) for chosen in all_words(width)]
    return [nested_score(outer_field, inner_field, blocks) for blocks in cut]


def nested_score(outer_field, inner_field, blocks):
    """The score of the nested table at the set of these blocks."""
    filled = sum([1 << index for index, block in enumerate(blocks) if block != 0])
    total = outer_field[filled]
    for block in blocks:
        # An empty block adds no shade; its words are counted all the same.
        total = total * (inner_field[block] if block != 0 else len(inner_field))
    return total // len(outer_field)


def span_mean(table, words):
    """The mean of the signs over the span of the words, a ratio, by its words."""
    check_table(table, "table")
    reached = span(table.width, words)
    return ratio(sum([table.sign(word) for word in reached]), len(reached))


def span_mean_by_shades(table, words):
    """The mean of the signs over the span of the words, a ratio, by the sets across."""
    check_table(table, "table")
    field = scores(table)
    return ratio(sum([field[chosen] for chosen in across(table.width, words)]), len(table))
