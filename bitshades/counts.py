"""The measures of tables, and counts over all tables of a width (point 45)."""

from bitshades.checks import check_integer
from bitshades.degree import degree
from bitshades.errors import OutOfRange, WrongKind, WrongSize
from bitshades.influence import turning_counts
from bitshades.nearest import distances
from bitshades.pairs import breaking_count_by_scores
from bitshades.qualities import falls
from bitshades.shades import low_scores
from bitshades.tables import Table, check_table
from bitshades.words import check_width, word_count

MEASURES = ("ones", "unlike", "breaking", "turns", "degree", "falls")
WIDEST_OF_ALL = 3


def check_narrow_width(width):
    """Refuse what is no width of 3 or less."""
    check_width(width)
    if width > WIDEST_OF_ALL:
        raise OutOfRange("width")


def check_measure(measure):
    """Refuse what is no measure."""
    if not isinstance(measure, str):
        raise WrongKind("measure")
    if measure not in MEASURES:
        raise OutOfRange("measure")


def tables_of(width):
    """The list of all tables of the width, in ascending order of their numbers."""
    return [Table.of_number(width, number) for number in range(1 << word_count(width))]


def all_tables(width):
    """The list of all tables of a width of 3 or less, in ascending order of their numbers."""
    check_narrow_width(width)
    return tables_of(width)


def measured(table, measure):
    """The measure of the table, where both have been checked."""
    if measure == "ones":
        return table.ones
    if measure == "unlike":
        return min(distances(table))
    if measure == "breaking":
        return breaking_count_by_scores(table)
    if measure == "turns":
        return sum(turning_counts(table))
    if measure == "degree":
        return degree(table)
    return len(falls(table))


def measure_of(table, measure):
    """The measure of the table."""
    check_table(table, "table")
    check_measure(measure)
    return measured(table, measure)


def tally(width, measure):
    """The list of the tuples of a value and the number of tables of the width that have it, ascending."""
    check_narrow_width(width)
    check_measure(measure)
    numbers = {}
    for table in tables_of(width):
        value = measured(table, measure)
        numbers[value] = numbers.get(value, 0) + 1
    return [(value, numbers[value]) for value in sorted(list(numbers))]


def tables_like(table):
    """The list of all tables of the width with the same low scores, in ascending order of their numbers."""
    check_table(table, "table")
    if table.width > WIDEST_OF_ALL:
        raise WrongSize("table")
    told = low_scores(table)
    return [other for other in tables_of(table.width) if low_scores(other) == told]


def tables_where(width, measure, value):
    """The list of the tables of the width whose measure is the value, in ascending order of their numbers."""
    check_narrow_width(width)
    check_measure(measure)
    check_integer(value, "value")
    return [table for table in tables_of(width) if measured(table, measure) == value]
