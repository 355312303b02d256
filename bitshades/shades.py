"""Scores, shades and fields (points 21 and 22)."""

from bitshades.checks import check_field, check_place, check_threshold, check_word, check_words
from bitshades.errors import NotATable
from bitshades.ratios import ratio
from bitshades.tables import Table, check_table, sign_of
from bitshades.words import all_words, parity, words_of_size


def width_of(field):
    """The width of a field that has been checked."""
    return len(field).bit_length() - 1


def field_width(field):
    """The width of the field."""
    check_field(field, "field")
    return width_of(field)


def score(table, chosen):
    """The score of the table at the set."""
    check_table(table, "table")
    check_word(table.width, chosen, "chosen")
    return sum([sign_of(table[word] ^ parity(table.width, chosen, word)) for word in all_words(table.width)])


def plain_scores(table):
    """The list of the scores at all sets, each sum taken by itself."""
    check_table(table, "table")
    return [score(table, chosen) for chosen in all_words(table.width)]


def scores(table):
    """The list of the scores at all sets, by steps."""
    check_table(table, "table")
    return stepped_through(table.signs())


def stepped(field, place):
    """The step at the place, of a field that has been checked."""
    items = list(field)
    for low in range(len(field)):
        high = low ^ (1 << place)
        if low < high:
            items[low] = field[low] + field[high]
            items[high] = field[low] - field[high]
    return items


def stepped_through(field):
    """The steps at all places, of a field that has been checked."""
    items = list(field)
    for place in range(width_of(field)):
        items = stepped(items, place)
    return items


def quick_step(field, place):
    """The list after the step at the place."""
    check_field(field, "field")
    check_place(width_of(field), place, "place")
    return stepped(field, place)


def quick_field(field):
    """The list after the steps at all places."""
    check_field(field, "field")
    return stepped_through(field)


def shade(table, chosen):
    """The shade of the table at the set, a ratio."""
    return ratio(score(table, chosen), len(table))


def shades(table):
    """The list of the shades at all sets, ascending."""
    return [ratio(item, len(table)) for item in scores(table)]


def field_back(field):
    """The items of the quick field of the field, each divided by the number of items."""
    return [ratio(item, len(field)) for item in quick_field(field)]


def is_scores(field):
    """True if the field is the scores of some table."""
    # The quick field of scores is the signs of the table, each times the number of items.
    return all([item in (len(field), -len(field)) for item in quick_field(field)])


def table_of_scores(field):
    """The table with these scores."""
    if not is_scores(field):
        raise NotATable()
    return Table(width_of(field), [int(item < 0) for item in quick_field(field)])


def weight_of(table, sets):
    """The sum of the squared shades at the sets of the row, a ratio."""
    check_table(table, "table")
    check_words(table.width, sets, "sets")
    return squares_at(scores(table), sets)


def squares_at(field, sets):
    """The sum of the squared shades at the sets, where the field is the scores."""
    return ratio(sum([field[chosen] * field[chosen] for chosen in sets]), len(field) * len(field))


def level_sums(field):
    """The list of the sums of the items at all sets of one size, by size."""
    width = width_of(field)
    return [sum([field[chosen] for chosen in words_of_size(width, size)]) for size in range(width + 1)]


def level_weights(table):
    """The list of the sums of the squared shades at all sets of one size, by size."""
    field = scores(table)
    return [ratio(item, len(field) ** 2) for item in level_sums([item ** 2 for item in field])]


def low_scores(table):
    """The list of the score at the empty set and then those at the sets of one place."""
    field = scores(table)
    return [field[0]] + [field[1 << place] for place in range(table.width)]


def heavy(table, threshold=(1, 4)):
    """The list of all sets whose squared shade is at least the threshold, ascending."""
    check_table(table, "table")
    check_threshold(threshold, "threshold")
    top, bottom = threshold
    least = top * len(table) * len(table)
    return [chosen for chosen, item in enumerate(scores(table)) if item * item * bottom >= least]
