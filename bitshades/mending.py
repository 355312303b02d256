"""Votes, margins, mended tables and mend logs (point 27)."""

from bitshades.checks import check_range, check_word
from bitshades.shades import scores, stepped_through
from bitshades.tables import Table, check_table
from bitshades.words import all_words

MOST_ROUNDS = 8


def votes_at(table, word):
    """The tuple of the numbers of votes 0 and of votes 1 at the word."""
    check_table(table, "table")
    check_word(table.width, word, "word")
    bits = table.bits
    ones = sum([bit ^ bits[other ^ word] for other, bit in enumerate(bits)])
    return (len(bits) - ones, ones)


def margin(table, word):
    """The number of votes 0 minus the number of votes 1 at the word."""
    zeros, ones = votes_at(table, word)
    return zeros - ones


def margins(table):
    """The list of the margins at all words, by votes."""
    check_table(table, "table")
    return [margin(table, word) for word in all_words(table.width)]


def margins_by_scores(table):
    """The list of the margins at all words, by the squares of the scores."""
    squares = [item * item for item in scores(table)]
    return [item // len(squares) for item in stepped_through(squares)]


def mended_bit(lead, bit):
    """The bit that a margin of that lead gives; the old bit where the votes are even."""
    if lead > 0:
        return 0
    if lead < 0:
        return 1
    return bit


def mended(table):
    """The mended table."""
    leads = margins(table)
    return Table(table.width, [mended_bit(lead, bit) for lead, bit in zip(leads, table)])


def mended_times(table, rounds=1):
    """The table mended that many times, each time the one that the round before gave."""
    check_table(table, "table")
    check_range(rounds, 0, MOST_ROUNDS, "rounds")
    result = table
    for _ in range(rounds):
        result = mended(result)
    return result


def even_words(table):
    """The list of the words with even votes, ascending."""
    return [word for word, lead in enumerate(margins(table)) if lead == 0]


def mend_log(table):
    """The mend log: for each word its numbers of votes and its bit in the mended table."""
    rows = []
    for word, bit in enumerate(mended(table)):
        zeros, ones = votes_at(table, word)
        rows.append((word, zeros, ones, bit))
    return rows


def is_mend_log(table, log):
    """Judge: True if the log is the mend log of the table."""
    return mend_log(table) == log
