"""Falls and raising, place tables and product tables, and the noisy share (points 42 to 44)."""

from bitshades.checks import check_place, check_share
from bitshades.errors import OutOfRange, WrongSize
from bitshades.making import place_table, product_table
from bitshades.nearest import least_rows, unlike
from bitshades.noise import fadings, size_weights, weighted_sum
from bitshades.ratios import ratio
from bitshades.shades import level_sums, scores
from bitshades.tables import Table, check_table
from bitshades.words import all_words, check_width

WIDEST_UP = 4
WIDEST_BY_WORDS = 4


def falls(table):
    """The list of the falls (word, place), ascending by word and then by place."""
    check_table(table, "table")
    pairs = [(word, place) for word in range(len(table)) for place in range(table.width)]
    return [(word, place) for word, place in pairs if is_fall(table, word, word ^ (1 << place))]


def is_fall(table, word, turned):
    """True if the table has bit 1 at the word and bit 0 at the greater one that it is turned to."""
    return word < turned and table[word] > table[turned]


def goes_up(table):
    """True if the table has no fall."""
    return len(falls(table)) == 0


def falling_share(table):
    """The number of falls divided by that of all edges, a ratio; 0 at width 0."""
    found = falls(table)
    if table.width == 0:
        return (0, 1)
    return ratio(len(found), table.width * (len(table) // 2))


def raised_at(table, place):
    """The table raised at the place."""
    check_table(table, "table")
    check_place(table.width, place, "place")
    bits = list(table)
    for low in range(len(table)):
        high = low ^ (1 << place)
        if is_fall(table, low, high):
            bits[low] = 0
            bits[high] = 1
    return Table(table.width, bits)


def raised(table):
    """The table raised at place 0, the result at place 1, and so on."""
    check_table(table, "table")
    result = table
    for place in range(table.width):
        result = raised_at(result, place)
    return result


def own_place(table):
    """The tuple of the place and the bit of which the table is the place table, or None."""
    check_table(table, "table")
    for place in range(table.width):
        for bit in (0, 1):
            if table == place_table(table.width, place, bit):
                return (place, bit)
    return None


def product_set(table):
    """The set of which the table is the product table, or None."""
    check_table(table, "table")
    for chosen in all_words(table.width):
        if table == product_table(table.width, chosen):
            return chosen
    return None


def splits_count(table):
    """The number of the ordered pairs of words that split the table."""
    check_table(table, "table")
    bits = table.bits
    return sum([len([y for y, right in enumerate(bits) if bits[x & y] != left * right]) for x, left in enumerate(bits)])


def noisy_share(table, share):
    """The noisy share of the table, a ratio, by words."""
    check_table(table, "table")
    if table.width > WIDEST_BY_WORDS:
        raise WrongSize("table")
    check_share(share, "share")
    bits = table.bits
    words = all_words(table.width)
    broken = [len([x for x in words for y in words if bits[x] ^ bits[y] != bits[x ^ y ^ z]]) for z in words]
    top, bottom = weighted_sum(size_weights(table.width, share), level_sums(broken))
    return ratio(top, bottom * len(bits) ** 2)


def noisy_share_by_scores(table, share):
    """The noisy share of the table, a ratio, by the cubes of the scores."""
    check_table(table, "table")
    check_share(share, "share")
    cubes = [item ** 3 for item in scores(table)]
    top, bottom = weighted_sum(fadings(table.width, share), level_sums(cubes))
    whole = bottom * len(table) ** 3
    return ratio(whole - top, 2 * whole)


def rising_rows(width):
    """The rows of bits of all tables of the width that go up, in ascending order of their numbers."""
    if width == 0:
        return [[0], [1]]
    halves = rising_rows(width - 1)
    return [low + high for high in halves for low in halves if lies_under(low, high)]


def lies_under(low, high):
    """True if no bit of the first row is greater than that of the second one."""
    return all([left <= right for left, right in zip(low, high)])


def all_up(width):
    """The list of all tables that go up, in ascending order of their numbers."""
    check_width(width)
    if width > WIDEST_UP:
        raise OutOfRange("width")
    return [Table(width, row) for row in rising_rows(width)]


def up_distance(table):
    """The least unlike count with a table that goes up."""
    check_table(table, "table")
    if table.width > WIDEST_UP:
        raise WrongSize("table")
    return min([unlike(table, other) for other in all_up(table.width)])


def nearest_products(table):
    """The tuple of the least unlike count with a product table and the list of all sets with that count."""
    check_table(table, "table")
    width = table.width
    return least_rows([(unlike(table, product_table(width, chosen)), chosen) for chosen in all_words(width)])


def nearest_own(table):
    """The tuple of the least unlike count with a place table and the list of all its (place, bit), or None."""
    check_table(table, "table")
    width = table.width
    if width == 0:
        return None
    pairs = [(place, bit) for place in range(width) for bit in (0, 1)]
    return least_rows([(unlike(table, place_table(width, place, bit)), (place, bit)) for place, bit in pairs])
