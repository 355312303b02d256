"""Votes on three things, and the rings that they may end in (points 46 to 48)."""

from bitshades.checks import check_bits, check_range, check_row, check_word
from bitshades.errors import OutOfRange, WrongKind, WrongSize
from bitshades.noise import weighted_sum
from bitshades.pairs import check_three_tables
from bitshades.qualities import own_place
from bitshades.ratios import ratio, ratio_power
from bitshades.shades import level_sums, scores
from bitshades.tables import check_table
from bitshades.words import MOST_WIDTH, all_words, bits_of_word, check_width, word_of_bits

ORDERS = ("abc", "acb", "bac", "bca", "cab", "cba")
RING = "ring"
MOST_VOTERS = 3
WIDEST_BY_BALLOTS = 4


def bits_of(order):
    """The tuple of the three bits of an order that has been checked."""
    a, b, c = [order.find(thing) for thing in "abc"]
    return (int(a < b), int(b < c), int(c < a))


def order_with(bits):
    """The order with these three bits, or "ring" if they are equal."""
    for order in ORDERS:
        if bits_of(order) == tuple(bits):
            return order
    return RING


def check_order(order, argument):
    """Refuse what is no order."""
    if not isinstance(order, str):
        raise WrongKind(argument)
    if order not in ORDERS:
        raise OutOfRange(argument)


def check_orders(orders, least, greatest):
    """Refuse what is no row of least to greatest orders."""
    check_row(orders, least, greatest, "orders")
    for order in orders:
        check_order(order, "orders")


def check_three_narrow(first, second, third):
    """Refuse what are no three tables of one width of 4 or less."""
    check_table(first, "first")
    if first.width > WIDEST_BY_BALLOTS:
        raise WrongSize("first")
    check_three_tables(first, second, third)


def order_bits(order):
    """The tuple of the three bits of the order."""
    check_order(order, "order")
    return bits_of(order)


def order_of_bits(bits):
    """The order with these three bits, or "ring" if they are equal."""
    check_bits(bits, 3, 3, "bits")
    return order_with(bits)


def words_of_ballot(orders):
    """The tuple of the three words of a ballot that has been checked."""
    rows = [bits_of(order) for order in orders]
    x, y, z = [word_of_bits([row[index] for row in rows]) for index in range(3)]
    return (x, y, z)


def ballot_words(orders):
    """The tuple of the three words of the ballot."""
    check_orders(orders, 0, MOST_WIDTH)
    return words_of_ballot(orders)


def ballot_of_words(width, first, second, third):
    """The list of the orders of the ballot with these words, or None if there is none."""
    check_width(width)
    check_word(width, first, "first")
    check_word(width, second, "second")
    check_word(width, third, "third")
    x, y, z = [bits_of_word(width, word) for word in (first, second, third)]
    orders = [order_with(bits) for bits in zip(x, y, z)]
    if RING in orders:
        return None
    return orders


def outcome_of(tables, orders):
    """The outcome of a ballot, where the three tables and the ballot have been checked."""
    words = words_of_ballot(orders)
    return order_with([table[word] for table, word in zip(tables, words)])


def outcome(first, second, third, orders):
    """The outcome of the ballot, an order or "ring"."""
    check_three_tables(first, second, third)
    check_orders(orders, first.width, first.width)
    return outcome_of((first, second, third), orders)


def ballots_of(voters):
    """The list of all ballots of that many voters, sorted by what voter 0 chose, then voter 1, and so on."""
    ballots = [()]
    for _ in range(voters):
        ballots = [ballot + (order,) for ballot in ballots for order in ORDERS]
    return ballots


def all_ballots(voters):
    """The list of all ballots of up to 3 voters, each a tuple of orders."""
    check_range(voters, 0, MOST_VOTERS, "voters")
    return ballots_of(voters)


def outcomes(first, second, third):
    """The list of the outcomes of all ballots, in the order of the ballots."""
    check_three_narrow(first, second, third)
    return [outcome_of((first, second, third), ballot) for ballot in ballots_of(first.width)]


def ring_count(first, second, third):
    """The number of ballots with outcome "ring", by the ballots."""
    return outcomes(first, second, third).count(RING)


def ring_share(first, second, third):
    """The share of the ballots with outcome "ring", a ratio, by the ballots."""
    told = outcomes(first, second, third)
    return ratio(told.count(RING), len(told))


def outcome_counts(first, second, third):
    """The list of the tuples of an outcome and its number of ballots: the six orders, then "ring"."""
    told = outcomes(first, second, third)
    return [(one, told.count(one)) for one in ORDERS + (RING,)]


def first_ring(first, second, third):
    """The first ballot with outcome "ring", a list of orders, or None."""
    told = outcomes(first, second, third)
    if RING not in told:
        return None
    return list(ballots_of(first.width)[told.index(RING)])


def ring_share_by_shades(first, second, third):
    """The share of the ballots with outcome "ring", a ratio, by the shades."""
    check_three_tables(first, second, third)
    products = [f * g + g * h + h * f for f, g, h in zip(scores(first), scores(second), scores(third))]
    powers = [ratio_power((-1, 3), size) for size in range(first.width + 1)]
    top, bottom = weighted_sum(powers, level_sums(products))
    whole = bottom * len(first) ** 2
    return ratio(whole + top, 4 * whole)


def unlike_pairs(tables):
    """The list of the pairs (i, j), ascending, of tables that are constant with bits that differ."""
    fixed = [index for index, table in enumerate(tables) if table.ones in (0, len(table))]
    return [(i, j) for i in fixed for j in fixed if i < j and tables[i][0] != tables[j][0]]


def common_place(tables):
    """The tuple of the place and the bit of which all the tables are the place table, or None."""
    if tables[0] == tables[1] and tables[0] == tables[2]:
        return own_place(tables[0])
    return None


def ring_words(tables):
    """Three words without a place of three equal bits, at which the tables have one bit; None without such."""
    first, second, third = [table.bits for table in tables]
    words = all_words(tables[0].width)
    for x in words:
        for y in [word for word in words if second[word] == first[x]]:
            alike = words[-1] ^ x ^ y
            for z in words:
                # Where x and y have one bit, z must have the other.
                if (x ^ z) & alike == alike and third[z] == first[x]:
                    return (x, y, z)
    return None


def ring_paper(first, second, third):
    """A right ring paper of the three tables."""
    check_three_tables(first, second, third)
    tables = (first, second, third)
    pairs = unlike_pairs(tables)
    if pairs:
        return ("unlike", pairs[0][0], pairs[0][1])
    own = common_place(tables)
    if own is not None:
        return ("own", own[0], own[1])
    x, y, z = ring_words(tables)
    return (RING, ballot_of_words(first.width, x, y, z))


def is_ring_paper(first, second, third, paper):
    """Judge: True if the paper is a right ring paper of the three tables."""
    check_three_tables(first, second, third)
    tables = (first, second, third)
    if not isinstance(paper, tuple) or len(paper) == 0:
        return False
    if paper[0] == RING and len(paper) == 2:
        return is_ring_ballot(tables, paper[1])
    if paper[0] == "unlike":
        return paper[1:] in unlike_pairs(tables)
    return paper[0] == "own" and paper[1:] == common_place(tables)


def is_ring_ballot(tables, ballot):
    """True if the value is a ballot, as a list, with outcome "ring"."""
    if not isinstance(ballot, list) or len(ballot) != tables[0].width:
        return False
    return all([order in ORDERS for order in ballot]) and outcome_of(tables, ballot) == RING
