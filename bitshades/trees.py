"""Trees of places that are asked one after the other, certificates and sensitivity (point 41)."""

from bitshades.checks import check_word, is_integer, is_place
from bitshades.errors import WrongKind, WrongSize
from bitshades.ratios import ratio
from bitshades.tables import Table, check_table, sign_of
from bitshades.words import all_words, check_width, parity, size_of, subsets, word_count, words_of_size

WIDEST_BY_TREES = 4


def is_tree_of(width, value, free):
    """True if the value is a tree of the width that asks places of the set free alone."""
    if is_integer(value):
        return value in (0, 1)
    if not isinstance(value, tuple) or len(value) != 3:
        return False
    place, low, high = value
    if not is_place(width, place) or (free >> place) & 1 == 0:
        return False
    left = free ^ (1 << place)
    return is_tree_of(width, low, left) and is_tree_of(width, high, left)


def is_tree(width, paper):
    """Judge: True if the paper is a tree of the width."""
    check_width(width)
    return is_tree_of(width, paper, (1 << width) - 1)


def check_tree(width, tree):
    """Refuse what is no width with a tree of it."""
    if not is_tree(width, tree):
        raise WrongKind("tree")


def way_through(tree, word):
    """The tuple of the answer at the word and the list of the places asked there."""
    places = []
    rest = tree
    while isinstance(rest, tuple):
        place, low, high = rest
        places.append(place)
        rest = high if (word >> place) & 1 == 1 else low
    return (rest, places)


def leaves_of(tree, chosen, taken):
    """The list of the leaves (set of the places asked on the way, word of the bits that the way takes, bit).

    `chosen` and `taken` are those of the way to the tree.
    """
    if not isinstance(tree, tuple):
        return [(chosen, taken, tree)]
    place, low, high = tree
    asked = chosen | (1 << place)
    return leaves_of(low, asked, taken) + leaves_of(high, asked, taken | (1 << place))


def leaves(width, tree):
    """The list of all leaves of the tree, after its checks."""
    check_tree(width, tree)
    return leaves_of(tree, 0, 0)


def tree_table(width, tree):
    """The Table of the tree."""
    check_tree(width, tree)
    return Table(width, [way_through(tree, word)[0] for word in all_words(width)])


def follow(width, tree, word):
    """The tuple of the answer at the word and the list of the places asked, in order."""
    check_tree(width, tree)
    check_word(width, word, "word")
    return way_through(tree, word)


def tree_depth(width, tree):
    """The greatest number of places on a way."""
    return max([size_of(width, chosen) for chosen, _, _ in leaves(width, tree)])


def leaf_count(width, tree):
    """The number of ways from the top to a leaf."""
    return len(leaves(width, tree))


def asking_shares(width, tree):
    """The list of the asking shares of all places, ratios."""
    check_tree(width, tree)
    ways = [way_through(tree, word)[1] for word in all_words(width)]
    return [ratio(len([way for way in ways if place in way]), len(ways)) for place in range(width)]


def tree_scores(width, tree):
    """The list of the scores of the table of the tree, from its leaves."""
    told = leaves(width, tree)
    field = [0] * word_count(width)
    for chosen, taken, bit in told:
        count = word_count(width - size_of(width, chosen))
        for part in subsets(width, chosen):
            field[part] = field[part] + sign_of(bit ^ parity(width, part, taken)) * count
    return field


def halves(bits, index):
    """The two lists of the bits at the words with bit 0, and with bit 1, at the place index."""
    low = [bit for word, bit in enumerate(bits) if (word >> index) & 1 == 0]
    high = [bit for word, bit in enumerate(bits) if (word >> index) & 1 == 1]
    return (low, high)


def without(places, index):
    """The places but for the one at the index."""
    return places[:index] + places[index + 1 :]


def plain_of(bits, places):
    """The plain tree of the table of these bits, with its places written as told."""
    if min(bits) == max(bits):
        return bits[0]
    index = 0
    low, high = halves(bits, index)
    while low == high:
        index += 1
        low, high = halves(bits, index)
    rest = without(places, index)
    return (places[index], plain_of(low, rest), plain_of(high, rest))


def plain_tree(table):
    """The plain tree of the table."""
    check_table(table, "table")
    return plain_of(list(table), list(range(table.width)))


def check_narrow_table(table):
    """Refuse what is no Table of width 4 or less."""
    check_table(table, "table")
    if table.width > WIDEST_BY_TREES:
        raise WrongSize("table")


def best_of(bits, places):
    """The tuple of the least depth and the best tree of the table of these bits, with its places as told."""
    if min(bits) == max(bits):
        return (0, bits[0])
    found = []
    for index, place in enumerate(places):
        low_bits, high_bits = halves(bits, index)
        low_depth, low = best_of(low_bits, without(places, index))
        high_depth, high = best_of(high_bits, without(places, index))
        found.append((1 + max(low_depth, high_depth), (place, low, high)))
    least = min([depth for depth, _ in found])
    return [told for told in found if told[0] == least][0]


def best_tree(table):
    """The best tree of the table."""
    check_narrow_table(table)
    return best_of(list(table), list(range(table.width)))[1]


def least_depth(table):
    """The least depth of a tree of the table."""
    check_narrow_table(table)
    return best_of(list(table), list(range(table.width)))[0]


def certifies(table, word, chosen):
    """True if the table has one bit at all words that agree with the word at the places of the set."""
    alike = [other for other in range(len(table)) if (other ^ word) & chosen == 0]
    return all([table[other] == table[word] for other in alike])


def certificate_at(table, word):
    """The certificate at the word of the least size, and among these the least set."""
    sets = [chosen for size in range(table.width + 1) for chosen in words_of_size(table.width, size)]
    return [chosen for chosen in sets if certifies(table, word, chosen)][0]


def least_certificate(table, word):
    """The least certificate of the table at the word."""
    check_narrow_table(table)
    check_word(table.width, word, "word")
    return certificate_at(table, word)


def certificate_sizes(table):
    """The tuple of the greatest of the least sizes of certificates at the words with bit 0 and with bit 1."""
    check_narrow_table(table)
    greatest = [0, 0]
    for word, bit in enumerate(table):
        size = size_of(table.width, certificate_at(table, word))
        greatest[bit] = max(greatest[bit], size)
    return (greatest[0], greatest[1])


def is_certificate(table, word, chosen):
    """True if the set is a certificate of the table at the word."""
    check_table(table, "table")
    check_word(table.width, word, "word")
    check_word(table.width, chosen, "chosen")
    return certifies(table, word, chosen)


def sensitivity(table, word):
    """The number of the places at which the word turns the table."""
    check_table(table, "table")
    check_word(table.width, word, "word")
    return len([place for place in range(table.width) if table[word] != table[word ^ (1 << place)]])
