"""Unlike counts, nearest sets and nearest papers (point 26)."""

from bitshades.checks import check_share, is_integer, is_word
from bitshades.errors import WrongPaper
from bitshades.ratios import ratio
from bitshades.shades import scores, width_of
from bitshades.tables import check_alike, check_table


def unlike(first, second):
    """The number of words at which the bits of the two tables differ."""
    check_table(first, "first")
    check_alike(first, second, "second")
    return (first + second).ones


def distance(first, second):
    """The distance of the two tables, a ratio."""
    return ratio(unlike(first, second), len(first))


def distances(table):
    """The list of the unlike counts with the sum-tables of all sets, ascending by set."""
    field = scores(table)
    return [(len(field) - item) // 2 for item in field]


def nearest(table):
    """The tuple of the least unlike count and the list of all nearest sets, ascending."""
    counts = distances(table)
    least = min(counts)
    return (least, [chosen for chosen, count in enumerate(counts) if count == least])


def sum_distance(table):
    """The least distance from a sum-table, a ratio."""
    return ratio(min(distances(table)), len(table))


def unique_nearest(table):
    """The nearest set if the sum distance is less than 1/4, else None."""
    count, sets = nearest(table)
    if 4 * count < len(table):
        return sets[0]
    return None


def least_rows(rows):
    """The tuple of the least count and the list of all values that have it, where a row is a count and a value."""
    least = min([count for count, _ in rows])
    return (least, [value for count, value in rows if count == least])


def turned_nearest(table):
    """The tuple of the least unlike count with a sum-table, turned or not, and all its (set, bit)."""
    rows = []
    for chosen, count in enumerate(distances(table)):
        rows.append((count, (chosen, 0)))
        rows.append((len(table) - count, (chosen, 1)))
    return least_rows(rows)


def sums_within(table, share):
    """The list of all sets, ascending, whose sum-table has at most that distance."""
    check_table(table, "table")
    check_share(share, "share")
    top, bottom = share
    return [chosen for chosen, count in enumerate(distances(table)) if count * bottom <= top * len(table)]


def settles(count, pairs):
    """True if these right tuples (set, score) tell the nearest sets of a table with that many words."""
    if len(pairs) == count:
        return True
    best = max([item for _, item in pairs])
    left = count ** 2 - sum([item ** 2 for _, item in pairs])
    return best > 0 and left < best ** 2


def nearest_paper(table):
    """A right nearest paper: the shortest one that takes the tuples by descending absolute score."""
    field = scores(table)
    ordered = sorted([(-abs(item), chosen) for chosen, item in enumerate(field)])
    paper = []
    for _, chosen in ordered:
        paper.append((chosen, field[chosen]))
        if settles(len(field), paper):
            return paper
    return paper


def is_scored_set(field, pair):
    """True if the value is a tuple of a set and its score in the field."""
    if not isinstance(pair, tuple) or len(pair) != 2:
        return False
    return is_word(width_of(field), pair[0]) and is_integer(pair[1]) and field[pair[0]] == pair[1]


def is_nearest_paper(table, paper):
    """Judge: True if the paper is a right nearest paper of the table."""
    field = scores(table)
    if not isinstance(paper, list) or len(paper) == 0:
        return False
    if not all([is_scored_set(field, pair) for pair in paper]):
        return False
    sets = [chosen for chosen, _ in paper]
    return len(set(sets)) == len(sets) and settles(len(field), paper)


def nearest_from_paper(table, paper):
    """The same tuple as `nearest`, from the paper."""
    if not is_nearest_paper(table, paper):
        raise WrongPaper("nearest")
    best = max([item for _, item in paper])
    return ((len(table) - best) // 2, sorted([chosen for chosen, item in paper if item == best]))
