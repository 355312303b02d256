"""Point 41 and the interface of trees.py."""

import unittest
from fractions import Fraction
from functools import lru_cache

from bitshades.asking import Asked
from bitshades.degree import degree
from bitshades.errors import WrongKind, WrongSize
from bitshades.influence import influences, variance
from bitshades.making import constant_table, drawn_table, most_table, product_table, sum_table
from bitshades.parting import widened
from bitshades.tables import Table
from bitshades.trees import (
    asking_shares,
    best_tree,
    certificate_sizes,
    follow,
    is_certificate,
    is_tree,
    leaf_count,
    least_certificate,
    least_depth,
    plain_tree,
    sensitivity,
    tree_depth,
    tree_scores,
    tree_table,
)
from helping import ANY_VALUES, HUGE, Promises, kinds, nest, table_faults, width_faults, word_faults
from plainly import all_tables, flipped, hand_scores, odd_tables, ones_in, places_in, some_tables, told

AND = Table(2, [0, 0, 0, 1])


def hand_is_tree(width, value, used=()):
    if type(value) is int:
        return value in (0, 1)
    if type(value) is not tuple or len(value) != 3 or type(value[0]) is not int:
        return False
    if value[0] not in range(width) or value[0] in used:
        return False
    return all(hand_is_tree(width, part, used + (value[0],)) for part in value[1:])


@lru_cache(maxsize=None)
def all_trees(places):
    """All trees that ask places of this tuple alone."""
    trees = [0, 1]
    for place in places:
        parts = all_trees(tuple(other for other in places if other != place))
        trees += [(place, low, high) for low in parts for high in parts]
    return trees


def full_tree(places, width, bit_at):
    """The tree that asks all places in this order, where `bit_at` tells the bit at a word."""

    def grown(left, word):
        if not left:
            return bit_at(word)
        return (left[0], grown(left[1:], word), grown(left[1:], word + 2 ** left[0]))

    return grown(tuple(places), 0)


def deep_trees():
    table = drawn_table(6, 17)
    chain = 1
    for place in (3, 0, 5, 1, 4, 2):
        chain = (place, chain, 0) if place % 2 else (place, 1, chain)
    return [
        full_tree((5, 2, 0, 4, 1, 3), 6, lambda word: table.bits[word]), full_tree(range(6), 6, lambda word: ones_in(word) % 2),
        chain, (2, (1, (0, 0, 1), 1), (0, (5, 0, (4, 1, 0)), (1, (3, 1, 0), (5, 1, (4, 0, 1))))), (5, 0, (0, 1, 0)), (3, 1, 1), 0,
    ]


def trees_to_try():
    """Pairs of a width and a tree."""
    pairs = [(width, tree) for width in range(3) for tree in all_trees(tuple(range(width)))]
    pairs += [(3, tree) for tree in all_trees((0, 1, 2))[::53]]
    pairs += [(width, tree) for width in (4, 6) for tree in all_trees((3, 1))]
    return pairs + [(6, tree) for tree in deep_trees()]


def hand_follow(tree, word):
    places = []
    while not isinstance(tree, int):
        places.append(tree[0])
        tree = tree[1 + word // 2 ** tree[0] % 2]
    return (tree, places)


class Trees(Promises):
    def test_values(self):
        for width, tree in trees_to_try():
            self.same(is_tree(width, tree), True)
            ways = [hand_follow(tree, word) for word in range(2**width)]
            self.same([follow(width, tree, word) for word in range(2**width)], ways)
            table = Table(width, [bit for bit, _ in ways])
            self.same(tree_table(width, tree), table)
            self.same(tree_depth(width, tree), max(len(places) for _, places in ways))
            self.same(tree_scores(width, tree), hand_scores(table))
            counts = [len([1 for _, places in ways if place in places]) for place in range(width)]
            self.same(asking_shares(width, tree), [told(Fraction(count, 2**width)) for count in counts])
            self.check_facts(width, tree, table)

    def check_facts(self, width, tree, table):
        self.assertGreaterEqual(tree_depth(width, tree), degree(table))
        for word in range(2**width):
            chosen = sum(2**place for place in follow(width, tree, word)[1])
            self.same(is_certificate(table, word, chosen), True)
            self.assertLessEqual(sensitivity(table, word), ones_in(chosen))
        total = sum(Fraction(*one) * Fraction(*two) for one, two in zip(asking_shares(width, tree), influences(table)))
        self.assertLessEqual(Fraction(*variance(table)), total)

    def test_leaf_counts(self):
        def leaves(tree):
            return 1 if isinstance(tree, int) else leaves(tree[1]) + leaves(tree[2])

        for width, tree in trees_to_try():
            self.same(leaf_count(width, tree), leaves(tree))
        self.same(leaf_count(6, 1), 1)
        self.same(leaf_count(2, (1, 0, 0)), 2)
        self.same(leaf_count(6, deep_trees()[0]), 64)
        self.same(leaf_count(6, deep_trees()[2]), 7)

    def test_all_forms_of_width_3(self):
        for tree in all_trees((0, 1, 2)):
            self.same(is_tree(3, tree), True)
            if not hand_is_tree(2, tree):
                self.same(is_tree(2, tree), False)

    def test_leaves_alone(self):
        for width in range(7):
            for bit in (0, 1):
                self.same(is_tree(width, bit), True)
                self.same(tree_table(width, bit), constant_table(width, bit))
                self.same(follow(width, bit, 2**width - 1), (bit, []))
                self.same(tree_depth(width, bit), 0)
                self.same(leaf_count(width, bit), 1)
                self.same(asking_shares(width, bit), [(0, 1)] * width)
                self.same(tree_scores(width, bit), [(1 - 2 * bit) * 2**width] + [0] * (2**width - 1))

    def test_told_values(self):
        tree = (2, 0, (0, 1, (1, 0, 1)))
        self.same(follow(3, tree, 5), (0, [2, 0, 1]))
        self.same(follow(3, tree, 7), (1, [2, 0, 1]))
        self.same(follow(3, tree, 4), (1, [2, 0]))
        self.same(follow(3, tree, 3), (0, [2]))
        self.same(str(tree_table(3, tree)), "3:00001011")
        self.same(asking_shares(3, tree), [(1, 2), (1, 4), (1, 1)])
        self.same(asking_shares(4, tree), [(1, 2), (1, 4), (1, 1), (0, 1)])
        self.same(tree_depth(3, tree), 3)
        self.same(tree_depth(6, deep_trees()[2]), 6)

    def test_returned_lists_are_new(self):
        tree = (1, 0, (0, 1, 0))
        bit, places = follow(2, tree, 3)
        places.append("changed")
        self.same(follow(2, tree, 3), (0, [1, 0]))


def no_trees(width):
    """Values that are no tree of the width."""
    values = [value for value in ANY_VALUES if not hand_is_tree(width, value) and not hand_is_tree(width, unbool(value))]
    values += [2, -1, (width, 0, 1), (-1, 0, 1), (HUGE, 0, 1), (0, 0), (0, 0, 1, 1), (0,), [0, 0, 1], ("0", 0, 1)]
    if width > 0:
        last = width - 1
        values += [(last, 0, (last, 0, 1)), (last, (last, 1, 0), 1), (0, 0, 2), (0, -1, 0), (0, 0, None), (0, "1", 0)]
        values += [(0, (width, 0, 1), 1), (0, 1, (-1, 0, 0)), (0, 0, (HUGE, 0, 0)), (last, nest(0, 18, tuple), 1), (0, [], 1)]
        values += [(0, [1], 0), (0, 0, AND), (AND, 0, 0), ((0, 0, 1), 0, 1)]
    if width > 1:
        values += [(0, (1, 0, 1), (1, (0, 0, 1), 1)), (1, 0, (0, (1, 0, 0), 1)), (0, (1, 0, 1), (1, 0)), (1, (0, 0, 1), (0, 1, 7))]
    return values


def unbool(value):
    if isinstance(value, tuple):
        return tuple(unbool(item) for item in value)
    return int(value) if isinstance(value, bool) else value


class NoTrees(Promises):
    def test_judge(self):
        for width in range(4):
            right = [0, 1] + [tree for tree in all_trees(tuple(range(width)))[-3:]]
            self.check_judge(is_tree, [width], right, lambda paper: hand_is_tree(width, paper))
        self.check_judge(is_tree, [6], deep_trees()[2:], lambda paper: hand_is_tree(6, paper))

    def test_faults_of_a_tree(self):
        for width in (0, 1, 2, 6):
            for value in no_trees(width):
                self.same(is_tree(width, value), False)
                for function in (tree_table, tree_depth, leaf_count, asking_shares, tree_scores):
                    self.refused(WrongKind, "argument", "tree", function, width, value)
                self.refused(WrongKind, "argument", "tree", follow, width, value, 0)
                self.refused(WrongKind, "argument", "tree", follow, width, tree=value, word=None)

    def test_fault_on_a_way_that_is_not_taken(self):
        tree = (0, 1, (1, 0, (0, 0, 1)))
        self.refused(WrongKind, "argument", "tree", follow, 2, tree, 0)
        self.refused(WrongKind, "argument", "tree", follow, 2, (0, 1, (2, 0, 1)), 0)
        self.refused(WrongKind, "argument", "tree", follow, 2, (0, 1, (1, 0, 2)), 2)

    def test_judge_refuses_other_arguments(self):
        self.check_faults(is_tree, {"width": 2, "paper": 0}, {"width": width_faults(), "paper": []})
        self.same(is_tree(paper=(1, 0, 1), width=2), True)
        self.same(is_tree(1, (1, 0, 1)), False)

    def test_arguments(self):
        faults = {"width": width_faults(), "tree": [(value, WrongKind) for value in no_trees(2)[-30:]]}
        for function in (tree_table, tree_depth, leaf_count, asking_shares, tree_scores):
            for width, tree in ((2, (1, 0, (0, 1, 0))), (6, 1)):
                self.check_function(function, {"width": width, "tree": tree}, {**faults, "tree": [(no_trees(2)[-1], WrongKind), (2, WrongKind)]})
        for width in (2, 6):
            bad = {"width": width_faults(), "tree": [([], WrongKind), ((0, 0), WrongKind)], "word": word_faults(width)}
            self.check_function(follow, {"width": width, "tree": (1, 0, (0, 1, 0)), "word": 3}, bad)


def hand_depth(width, bit_at):
    """The least depth and the least best first place (or None), for a dict of bits of a table of the width."""

    @lru_cache(maxsize=None)
    def depth(known):
        return search(known)[0]

    def search(known):
        held = dict(known)
        left = {bit_at[word] for word in range(2**width) if all(word // 2**place % 2 == bit for place, bit in known)}
        if len(left) == 1:
            return (0, None)
        free = [place for place in range(width) if place not in held]
        tried = [(1 + max(depth(tuple(sorted({**held, place: bit}.items()))) for bit in (0, 1)), place) for place in free]
        return min(tried)

    def tree(known):
        place = search(known)[1]
        held = dict(known)
        if place is None:
            return [bit_at[word] for word in range(2**width) if all(word // 2**at % 2 == bit for at, bit in known)][0]
        parts = [tree(tuple(sorted({**held, place: bit}.items()))) for bit in (0, 1)]
        return (place, parts[0], parts[1])

    return depth(()), tree(())


def hand_plain(width, bits, known=()):
    words = [word for word in range(2**width) if all(word // 2**place % 2 == bit for place, bit in known)]
    if len({bits[word] for word in words}) == 1:
        return bits[words[0]]
    held = dict(known)
    free = [place for place in range(width) if place not in held]
    place = [place for place in free if any(bits[word] != bits[flipped(word, place)] for word in words)][0]
    return (place, hand_plain(width, bits, known + ((place, 0),)), hand_plain(width, bits, known + ((place, 1),)))


def narrow_tables():
    tables = [table for width in range(3) for table in all_tables(width)] + all_tables(3)[::7]
    tables += odd_tables(3) + odd_tables(4) + [most_table(3), most_table(4), widened(most_table(3), 4, 14), ~product_table(4, 15)]
    return tables + [widened(drawn_table(3, 9), 4, 13), widened(AND, 4, 9), widened(sum_table(2, 3), 4, 10)]


class Best(Promises):
    def test_best_trees(self):
        for table in narrow_tables():
            depth, tree = hand_depth(table.width, table.bits)
            self.same(best_tree(table), tree)
            self.same(least_depth(table), depth)
            self.same(tree_table(table.width, tree), table)
            self.same(tree_depth(table.width, best_tree(table)), depth)

    def test_least_of_all_trees(self):
        least = {}
        for tree in all_trees((0, 1, 2)):
            bits = tuple(hand_follow(tree, word)[0] for word in range(8))
            depth = max(len(hand_follow(tree, word)[1]) for word in range(8))
            least[bits] = min(depth, least.get(bits, 9))
        self.assertEqual(len(least), 256)
        for bits, depth in least.items():
            self.same(least_depth(Table(3, bits)), depth)

    def test_plain_trees(self):
        for table in some_tables() + narrow_tables() + [widened(AND, 6, 36)]:
            tree = plain_tree(table)
            self.same(tree, hand_plain(table.width, table.bits))
            self.same(tree_table(table.width, tree), table)

    def test_told_values(self):
        self.same(best_tree(AND), (0, 0, (1, 0, 1)))
        self.same(plain_tree(widened(AND, 5, 18)), (1, 0, (4, 0, 1)))
        self.same(best_tree(widened(AND, 4, 10)), (1, 0, (3, 0, 1)))
        chooses = Table(3, [(word >> 2 if word & 1 else word >> 1) & 1 for word in range(8)])
        self.same(best_tree(chooses), (0, (1, 0, 1), (2, 0, 1)))
        chooses = Table(3, [(word >> 1 if word & 4 else word) & 1 for word in range(8)])
        self.same(best_tree(chooses), (2, (0, 0, 1), (1, 0, 1)))
        self.same(plain_tree(chooses), (0, (1, 0, (2, 0, 1)), (1, (2, 1, 0), 1)))
        self.same(least_depth(chooses), 2)
        self.same(best_tree(sum_table(2, 3)), (0, (1, 0, 1), (1, 1, 0)))
        self.same(least_depth(sum_table(4, 15)), 4)
        for width in range(5):
            for bit in (0, 1):
                self.same(best_tree(constant_table(width, bit)), bit)
                self.same(least_depth(constant_table(width, bit)), 0)
                self.same(plain_tree(constant_table(width, bit)), bit)

    def test_arguments(self):
        for table in (Table(0, [1]), AND, drawn_table(4, 5)):
            wide = [(drawn_table(width, 1), WrongSize) for width in (5, 6)]
            for function in (best_tree, least_depth, certificate_sizes):
                self.check_function(function, {"table": table}, {"table": table_faults() + wide})
        for table in (Table(0, [1]), AND, drawn_table(6, 5)):
            self.check_function(plain_tree, {"table": table}, {"table": table_faults()})


def hand_is_certificate(table, word, chosen):
    places = places_in(chosen)
    for other in range(len(table)):
        if all(other // 2**place % 2 == word // 2**place % 2 for place in places) and table.bits[other] != table.bits[word]:
            return False
    return True


class Certificates(Promises):
    def test_least_certificates(self):
        for table in narrow_tables():
            greatest = [0, 0]
            for word in range(len(table)):
                right = [chosen for chosen in range(len(table)) if hand_is_certificate(table, word, chosen)]
                least = min(right, key=lambda chosen: (ones_in(chosen), chosen))
                self.same(least_certificate(table, word), least)
                bit = table.bits[word]
                greatest[bit] = max(greatest[bit], ones_in(least))
                self.assertTrue(all(sensitivity(table, word) <= ones_in(chosen) for chosen in right))
            self.same(certificate_sizes(table), tuple(greatest))
            self.assertLessEqual(least_depth(table), greatest[0] * greatest[1])

    def test_is_certificate(self):
        for table in some_tables():
            last = len(table) - 1
            for word in {0, last, last // 3, last // 2}:
                for chosen in range(len(table)):
                    self.same(is_certificate(table, word, chosen), hand_is_certificate(table, word, chosen))

    def test_sensitivity(self):
        for table in some_tables():
            for word in range(len(table)):
                wanted = [place for place in range(table.width) if table.bits[word] != table.bits[flipped(word, place)]]
                self.same(sensitivity(table, word), len(wanted))

    def test_told_values(self):
        self.same([least_certificate(AND, word) for word in range(4)], [1, 2, 1, 3])
        self.same(certificate_sizes(AND), (1, 2))
        self.same(certificate_sizes(~AND), (2, 1))
        self.same([sensitivity(AND, word) for word in range(4)], [0, 1, 1, 2])
        self.same(least_certificate(most_table(3), 0), 3)
        self.same(certificate_sizes(most_table(3)), (2, 2))
        self.same(certificate_sizes(constant_table(4, 1)), (0, 0))
        self.same(certificate_sizes(Table(0, [0])), (0, 0))
        self.same(least_certificate(constant_table(3, 0), 5), 0)
        self.same(is_certificate(AND, 0, 0), False)
        self.same(is_certificate(AND, word=3, chosen=3), True)
        self.same(is_certificate(Table(0, [1]), 0, 0), True)

    def test_arguments(self):
        wide = [(drawn_table(width, 1), WrongSize) for width in (5, 6)]
        for table in (Table(0, [1]), AND, drawn_table(4, 5)):
            good = {"table": table, "word": len(table) - 1}
            words = word_faults(table.width)
            self.check_function(least_certificate, good, {"table": table_faults() + wide, "word": words})
        for table in (Table(0, [1]), AND, drawn_table(6, 5)):
            words = word_faults(table.width)
            self.check_function(sensitivity, {"table": table, "word": 0}, {"table": table_faults(), "word": words})
            good = {"table": table, "word": 0, "chosen": len(table) - 1}
            self.check_function(is_certificate, good, {"table": table_faults(), "word": words, "chosen": words})
        self.refused(WrongSize, "argument", "table", least_certificate, drawn_table(5), -1)
        self.refused(WrongKind, "argument", "table", plain_tree, Asked(AND))

    def test_returned_values_are_plain(self):
        for table in (AND, most_table(3)):
            self.assertEqual(kinds(certificate_sizes(table))[0], "tuple")


if __name__ == "__main__":
    unittest.main()
