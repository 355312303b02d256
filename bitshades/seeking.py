"""Starts and their weights, near logs, samples and sampled logs (points 30 to 32)."""

from bitshades.asking import check_asked
from bitshades.checks import check_range, check_share, check_threshold, check_word, check_word_pairs
from bitshades.errors import OutOfRange
from bitshades.ratios import compare_ratios, ratio, ratio_difference, whole_part
from bitshades.shades import scores, squares_at, stepped_through
from bitshades.tables import check_table, sign_of
from bitshades.words import all_words, beginning, check_width

MOST_SAMPLES = 64


def check_start(width, count, start):
    """Refuse what is no length of a start of the width with a start of that length."""
    check_range(count, 0, width, "count")
    check_word(count, start, "start")


def check_samples(width, samples):
    """Refuse what is no row of samples of the width."""
    check_word_pairs(width, samples, 1, MOST_SAMPLES, "samples")


def joined_word(first, second, count):
    """The word with the bits of the second one below count and those of the first one from there on."""
    return first ^ ((first ^ second) & ((1 << count) - 1))


def start_sums(answers, count, pairs):
    """For each start of the length, the sum over the pairs of words (u, b) of the signs that it takes.

    These are the signs of f(u), of f(b) and of the parity of the start at u + b.
    """
    # All starts share the sums by u + b, which has no place from count on; the steps put in the parities.
    field = [0] * (1 << count)
    for first, second in pairs:
        sign = sign_of(answers[first] ^ answers[second])
        field[first ^ second] = field[first ^ second] + sign
    return stepped_through(field)


def weight_behind(table, count, start):
    """The weight of the start, a ratio, by the shades."""
    check_table(table, "table")
    check_start(table.width, count, start)
    behind = [chosen for chosen in all_words(table.width) if beginning(table.width, chosen, count) == start]
    return squares_at(scores(table), behind)


def weight_by_pairs(table, count, start):
    """The weight of the start, a ratio, by pairs of words."""
    check_table(table, "table")
    check_start(table.width, count, start)
    pairs = [(word, joined_word(word, low, count)) for word in all_words(table.width) for low in all_words(count)]
    return ratio(start_sums(table.bits, count, pairs)[start], len(pairs))


def kept_bound(threshold):
    """The whole part of 1 / threshold."""
    check_threshold(threshold, "threshold")
    return whole_part((threshold[1], threshold[0]))


def start_weights(table):
    """The weights of all starts: a list for each length from 0 to the width."""
    squares = [item * item for item in scores(table)]
    rows = [squares]
    while len(rows[0]) > 1:
        # The weights of the two children of a start add up to its own.
        half = len(rows[0]) // 2
        rows = [[low + high for low, high in zip(rows[0][:half], rows[0][half:])]] + rows
    return [[ratio(item, len(table) ** 2) for item in row] for row in rows]


def log_of(rows, threshold):
    """The log of the starts of these weights, or estimates, that are kept from the threshold on."""
    levels = []
    starts = [0]
    for count, row in enumerate(rows):
        level = [(start, row[start], compare_ratios(row[start], threshold) >= 0) for start in starts]
        levels.append(level)
        kept = kept_starts(level)
        starts = kept + [start + (1 << count) for start in kept]
    return levels


def kept_starts(level):
    """The list of the kept starts of the level, ascending."""
    return [start for start, _, told in level if told]


def near_log(table, threshold):
    """The near log of the table, a list of levels."""
    check_table(table, "table")
    check_threshold(threshold, "threshold")
    return log_of(start_weights(table), threshold)


def near_sets(table, threshold):
    """The list of the sets whose squared shade is at least the threshold, ascending."""
    return kept_starts(near_log(table, threshold)[table.width])


def near_within(table, share):
    """The list of the sets whose sum-table has at most that distance, below 1/2, ascending."""
    check_table(table, "table")
    check_share(share, "share")
    top, bottom = share
    least = bottom - 2 * top
    if least <= 0:
        raise OutOfRange("share")
    field = scores(table)
    return [chosen for chosen in near_sets(table, (least ** 2, bottom ** 2)) if field[chosen] > 0]


def is_near_log(table, threshold, log):
    """Judge: True if the log is the near log of the table."""
    return near_log(table, threshold) == log


def sample_words(width, samples):
    """The list of the sample words, each where it comes up first."""
    check_width(width)
    check_samples(width, samples)
    words = []
    for first, second in samples:
        for count in range(width + 1):
            word = joined_word(first, second, count)
            if word not in words:
                words.append(word)
    return words


def answers_at(asked, words):
    """Ask the words in their order, none of them twice; a dict of the answers."""
    answers = {}
    for word in words:
        if word not in answers:
            answers[word] = asked.ask(word)
    return answers


def estimates(answers, count, samples):
    """The list of the estimates of all starts of the length, ratios."""
    pairs = [(first, joined_word(first, second, count)) for first, second in samples]
    return [ratio(item, len(pairs)) for item in start_sums(answers, count, pairs)]


def estimate_rows(answers, width, samples):
    """The estimates of all starts: a list for each length from 0 to the width."""
    return [estimates(answers, count, samples) for count in range(width + 1)]


def sampled_weight(asked, count, start, samples):
    """The estimate of the start by the samples, a ratio."""
    check_asked(asked, "asked")
    check_start(asked.width, count, start)
    check_samples(asked.width, samples)
    words = [word for first, second in samples for word in [first, joined_word(first, second, count)]]
    return estimates(answers_at(asked, words), count, samples)[start]


def sampled_log(asked, cut, samples):
    """The sampled log at the cut, a list of levels; it first asks all sample words."""
    check_asked(asked, "asked")
    check_threshold(cut, "cut")
    check_samples(asked.width, samples)
    answers = answers_at(asked, sample_words(asked.width, samples))
    return log_of(estimate_rows(answers, asked.width, samples), cut)


def sampled_sets(asked, cut, samples):
    """The list of the kept starts of the last level of the sampled log, ascending."""
    levels = sampled_log(asked, cut, samples)
    return kept_starts(levels[asked.width])


def greatest_error(table, cut, samples):
    """The greatest absolute difference of estimate and weight in the sampled log of the table, a ratio."""
    check_table(table, "table")
    check_threshold(cut, "cut")
    check_samples(table.width, samples)
    greatest = (0, 1)
    weights = start_weights(table)
    for row, level in zip(weights, log_of(estimate_rows(table.bits, table.width, samples), cut)):
        for start, estimate, _ in level:
            top, bottom = ratio_difference(estimate, row[start])
            if compare_ratios((abs(top), bottom), greatest) > 0:
                greatest = (abs(top), bottom)
    return greatest
