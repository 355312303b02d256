"""Noise values, stability and turn share (points 34 and 35)."""

from bitshades.checks import check_fraction_field, check_place, check_share, check_word
from bitshades.ratios import mean_of, ratio, ratio_difference, ratio_power, ratio_product, sum_of
from bitshades.shades import level_weights, scores, shades, stepped_through, width_of
from bitshades.tables import check_table
from bitshades.words import check_width, size_of, words_of_size


def size_weights(width, share):
    """The list of the noise weights of a word of each size from 0 to the width."""
    stay = ratio_difference((1, 1), share)
    turned = [ratio_power(share, size) for size in range(width + 1)]
    kept = [ratio_power(stay, width - size) for size in range(width + 1)]
    return [ratio_product(left, right) for left, right in zip(turned, kept)]


def noise_weight(width, word, share):
    """The noise weight of the word, a ratio."""
    check_width(width)
    check_word(width, word, "word")
    check_share(share, "share")
    return size_weights(width, share)[size_of(width, word)]


def weighted_sum(weights, integers):
    """The sum of the products of weights and integers at the same index, a ratio."""
    return sum_of([ratio_product(weight, (item, 1)) for weight, item in zip(weights, integers)])


def noise_values(table, share):
    """The list of the noise values, ratios, by words."""
    check_table(table, "table")
    check_share(share, "share")
    width = table.width
    weights = size_weights(width, share)
    signs = table.signs()
    levels = [words_of_size(width, size) for size in range(width + 1)]
    return [
        weighted_sum(weights, [sum([signs[word ^ other] for other in level]) for level in levels])
        for word in range(len(signs))
    ]


def fadings(width, share):
    """The list of (1 - 2 * share)^size for each size from 0 to the width."""
    top, bottom = share
    return [ratio_power((bottom - 2 * top, bottom), size) for size in range(width + 1)]


def noise_values_by_shades(table, share):
    """The list of the noise values, ratios, by shades."""
    check_table(table, "table")
    check_share(share, "share")
    weights = [ratio(top, bottom * len(table)) for top, bottom in fadings(table.width, share)]
    levels = [stepped_through(level_scores(table, size)) for size in range(table.width + 1)]
    return [weighted_sum(weights, [level[word] for level in levels]) for word in range(len(table))]


def level_scores(table, size):
    """The scores of the table at the sets of the size, with 0 at all others."""
    return [item if size_of(table.width, chosen) == size else 0 for chosen, item in enumerate(scores(table))]


def noise_stepped(values, place, share):
    """The noise step at the place, of values that have been checked."""
    return [noisy(value, values[index ^ (1 << place)], share) for index, value in enumerate(values)]


def noisy(own, other, share):
    """(1 - share) * own + share * other, a ratio."""
    top, bottom = share
    total = (bottom - top) * own[0] * other[1] + top * other[0] * own[1]
    return ratio(total, bottom * own[1] * other[1])


def noise_step(values, place, share):
    """The list after the noise step at the place, ratios."""
    check_fraction_field(values, "values")
    check_place(width_of(values), place, "place")
    check_share(share, "share")
    return noise_stepped(values, place, share)


def noise_spread(values, share):
    """The list after the noise steps at all places, ratios."""
    check_fraction_field(values, "values")
    check_share(share, "share")
    items = [ratio(top, bottom) for top, bottom in values]
    for place in range(width_of(values)):
        items = noise_stepped(items, place, share)
    return items


def noise_shades(table, share):
    """The list, by set, of (1 - 2 * share)^size times the shade, ratios."""
    check_table(table, "table")
    check_share(share, "share")
    powers = fadings(table.width, share)
    return [ratio_product(powers[size_of(table.width, chosen)], item) for chosen, item in enumerate(shades(table))]


def stability(table, share):
    """The stability, a ratio, by words."""
    values = noise_values(table, share)
    return mean_of([ratio_product((sign, 1), item) for sign, item in zip(table.signs(), values)])


def stability_by_shades(table, share):
    """The stability, a ratio, by shades."""
    check_table(table, "table")
    check_share(share, "share")
    powers = fadings(table.width, share)
    return sum_of([ratio_product(power, weight) for power, weight in zip(powers, level_weights(table))])


def turn_share(table, share):
    """The turn share, (1 - stability) / 2, a ratio."""
    top, bottom = stability(table, share)
    return ratio(bottom - top, 2 * bottom)


def joined_noise(first, second):
    """The noise of the two shares one after the other, a ratio."""
    check_share(first, "first")
    check_share(second, "second")
    # A place ends up turned if one of the two noises turns it and the other does not.
    return noisy(first, (first[1] - first[0], first[1]), second)
