"""Points 46 to 48 and the interface of votes.py."""

import unittest
from fractions import Fraction
from itertools import product

from bitshades.asking import Asked
from bitshades.errors import OutOfRange, WrongKind, WrongSize
from bitshades.making import constant_table, drawn_table, most_table, place_table, product_table, sum_table
from bitshades.parting import widened, with_turned_bit
from bitshades.tables import Table
from bitshades.votes import (
    ORDERS,
    all_ballots,
    ballot_of_words,
    ballot_words,
    first_ring,
    is_ring_paper,
    order_bits,
    order_of_bits,
    outcome,
    outcome_counts,
    ring_count,
    ring_paper,
    ring_share,
    ring_share_by_shades,
)
from helping import HUGE, Promises, integer_faults, order_faults, row_faults, table_faults, width_faults, word_faults
from plainly import all_tables, hand_shades, odd_tables, ones_in, told

AND = Table(2, [0, 0, 0, 1])
OUTCOMES = ORDERS + ("ring",)


def hand_bits(order):
    ahead = [order.index(one) < order.index(two) for one, two in ("ab", "bc", "ca")]
    return tuple(int(one) for one in ahead)


BITS_OF = {order: hand_bits(order) for order in ORDERS}
ORDER_OF = {bits: order for order, bits in BITS_OF.items()}


def hand_words(ballot):
    return tuple(sum(BITS_OF[order][row] * 2**voter for voter, order in enumerate(ballot)) for row in range(3))


def hand_outcome(tables, ballot):
    bits = tuple(table.bits[word] for table, word in zip(tables, hand_words(ballot)))
    return ORDER_OF.get(bits, "ring")


def hand_counts(tables):
    found = [hand_outcome(tables, ballot) for ballot in product(ORDERS, repeat=tables[0].width)]
    return [(one, found.count(one)) for one in OUTCOMES]


def triples(width):
    """Triples of tables of the width: all of them up to width 1, else many unlike ones."""
    if width <= 1:
        return list(product(all_tables(width), repeat=3))
    if width == 2:
        return list(product(all_tables(2), repeat=3))[::13]
    tables = odd_tables(width) + [place_table(width, place, bit) for place in range(width) for bit in (0, 1)] + [most_table(width)]
    first = [(table, table, table) for table in tables]
    return first + [(tables[index], tables[5 * index % len(tables)], tables[3 * index % len(tables) - 7]) for index in range(len(tables))]


class Orders(Promises):
    def test_bits(self):
        wanted = {"abc": (1, 1, 0), "acb": (1, 0, 0), "bac": (0, 1, 0), "bca": (0, 1, 1), "cab": (1, 0, 1), "cba": (0, 0, 1)}
        self.same(ORDERS, tuple(wanted))
        for order, bits in wanted.items():
            self.same(order_bits(order), bits)
            self.same(order_of_bits(list(bits)), order)
            self.same(order_of_bits(bits), order)
            self.assertEqual(BITS_OF[order], bits)
        for bit in (0, 1):
            self.same(order_of_bits([bit] * 3), "ring")
        self.same(order_bits("cab"), (1, 0, 1))

    def test_arguments(self):
        self.check_function(order_bits, {"order": "bca"}, {"order": order_faults()})
        for bits in ([0, 1, 1], [1, 1, 1]):
            self.check_function(order_of_bits, {"bits": bits}, {"bits": row_faults(bits, 3, 3, integer_faults(0, 1))})


class Ballots(Promises):
    def test_all_ballots(self):
        for voters in range(4):
            wanted = [tuple(ballot) for ballot in product(ORDERS, repeat=voters)]
            self.same(all_ballots(voters), wanted)
        self.same(all_ballots(0), [()])
        self.same(all_ballots(2)[:7], [("abc", other) for other in ORDERS] + [("acb", "abc")])

    def test_words(self):
        for voters in range(4):
            for ballot in all_ballots(voters):
                words = ballot_words(ballot)
                self.same(words, hand_words(ballot))
                self.same(ballot_words(list(ballot)), words)
                self.same(ballot_of_words(voters, *words), list(ballot))
        six = ["cab", "abc", "abc", "bca", "cba", "acb"]
        self.same(ballot_words(six), hand_words(six))
        self.same(ballot_of_words(6, *hand_words(six)), six)
        self.same(ballot_words([]), (0, 0, 0))
        self.same(ballot_of_words(0, 0, 0, 0), [])

    def test_words_of_no_ballot(self):
        for width in range(4):
            for words in product(range(2**width), repeat=3):
                bits = [tuple(word // 2**place % 2 for word in words) for place in range(width)]
                wanted = [ORDER_OF.get(three) for three in bits]
                self.same(ballot_of_words(width, *words), None if None in wanted else wanted)
        self.same(ballot_of_words(6, 63, 62, 0), ["acb"] + ["abc"] * 5)
        self.same(ballot_of_words(6, 63, 62, 1), ["cab"] + ["abc"] * 5)
        self.same(ballot_of_words(6, 63, 62, 2), None)

    def test_arguments(self):
        self.check_function(all_ballots, {"voters": 2}, {"voters": integer_faults(0, 3)})
        for orders in (["cab"], ["abc", "abc", "cba"], ["bac"] * 6):
            self.check_function(ballot_words, {"orders": orders}, {"orders": row_faults(orders, 0, 6, order_faults())})
        for width in (0, 2, 6):
            good = {"width": width, "first": 0, "second": 2**width - 1, "third": 0}
            faults = {"width": width_faults(), **{name: word_faults(width) for name in ("first", "second", "third")}}
            self.check_function(ballot_of_words, good, faults)
            self.check_calls(ballot_of_words, {"width": width, "first": 0, "second": 2**width - 1, "third": 2**width // 2})
        for row in (AND, {0: "abc"}, ["abc", {}], [AND], ["abc", ["abc"]]):
            self.refused(WrongKind, "argument", "orders", ballot_words, row)


class Outcomes(Promises):
    def test_outcomes(self):
        for width in range(4):
            for tables in triples(width)[:: 1 if width < 2 else 9]:
                for ballot in all_ballots(width)[:: 1 if width < 3 else 7]:
                    wanted = hand_outcome(tables, ballot)
                    self.same(outcome(*tables, ballot), wanted)
                    self.same(outcome(*tables, list(ballot)), wanted)
        tables = (most_table(6), place_table(6, 5), sum_table(6, 63))
        for ballot in (["abc"] * 6, ["cab", "abc", "abc", "bca", "cba", "acb"], ["bca"] * 5 + ["bac"]):
            self.same(outcome(*tables, ballot), hand_outcome(tables, ballot))

    def test_counts(self):
        for width in range(4):
            for tables in triples(width)[:: 1 if width < 2 else 3]:
                counts = hand_counts(tables)
                rings = counts[-1][1]
                self.same(outcome_counts(*tables), counts)
                self.same(ring_count(*tables), rings)
                self.same(ring_share(*tables), told(Fraction(rings, 6**width)))
                self.same(ring_share_by_shades(*tables), told(Fraction(rings, 6**width)))
                self.check_first_ring(tables)

    def check_first_ring(self, tables):
        rings = [list(ballot) for ballot in product(ORDERS, repeat=tables[0].width) if hand_outcome(tables, ballot) == "ring"]
        self.same(first_ring(*tables), rings[0] if rings else None)

    def test_width_4(self):
        for tables in triples(4)[::9] + [(most_table(4),) * 3]:
            counts = hand_counts(tables)
            self.same(outcome_counts(*tables), counts)
            self.same(ring_count(*tables), counts[-1][1])
            self.same(ring_share(*tables), told(Fraction(counts[-1][1], 1296)))
            self.same(ring_share_by_shades(*tables), ring_share(*tables))
            self.check_first_ring(tables)

    def test_shades_at_each_width(self):
        for width in (5, 6):
            for tables in triples(width)[::3]:
                shades = [hand_shades(table) for table in tables]
                total = Fraction(1)
                for one, two in ((0, 1), (1, 2), (2, 0)):
                    pairs = enumerate(zip(shades[one], shades[two]))
                    total += sum(Fraction(-1, 3) ** ones_in(chosen) * left * right for chosen, (left, right) in pairs)
                self.same(ring_share_by_shades(*tables), told(total / 4))

    def test_told_values(self):
        self.same(ring_share(*[most_table(3)] * 3), (1, 18))
        self.same(ring_share_by_shades(most_table(3), most_table(3), third=most_table(3)), (1, 18))
        self.same(ring_count(*[place_table(3, 1)] * 3), 0)
        self.same(first_ring(*[most_table(3)] * 3), ["abc", "bca", "cab"])
        self.same(first_ring(*[Table(0, [1])] * 3), [])
        self.same(first_ring(Table(0, [1]), Table(0, [0]), Table(0, [1])), None)
        self.same(ring_count(*[Table(0, [1])] * 3), 1)
        self.same(outcome(*[Table(0, [0])] * 3, []), "ring")
        self.same(outcome_counts(Table(0, [1]), Table(0, [1]), Table(0, [0]))[0], ("abc", 1))
        self.same(ring_share(*[constant_table(4, 0)] * 3), (1, 1))
        self.same(outcome(*[most_table(3)] * 3, ("abc", "bca", "cab")), "ring")

    def three_faults(self, width, wide=()):
        other = [(drawn_table(more, 1), WrongSize) for more in range(7) if more != width]
        faults = {"first": table_faults() + list(wide), "second": table_faults() + other, "third": table_faults() + other}
        return {name: drawn_table(width, seed) for seed, name in enumerate(faults)}, faults

    def test_arguments(self):
        wide = [(drawn_table(width, 1), WrongSize) for width in (5, 6)]
        for width in (0, 2, 4):
            for function in (ring_count, ring_share, outcome_counts, first_ring):
                self.check_function(function, *self.three_faults(width, wide))
        for width in (0, 2, 6):
            for function in (ring_share_by_shades, ring_paper):
                self.check_function(function, *self.three_faults(width))
            good, faults = self.three_faults(width)
            self.check_faults(is_ring_paper, {**good, "paper": None}, {**faults, "paper": []})
            orders = ["abc", "bca", "cab", "acb", "bac", "cba"][:width]
            row = row_faults(orders, width, width, order_faults())
            self.check_function(outcome, {**good, "orders": orders}, {**faults, "orders": row})

    def test_width_ahead_of_the_later_tables(self):
        for function in (ring_count, ring_share, outcome_counts, first_ring):
            self.refused(WrongSize, "argument", "first", function, drawn_table(5), None, None)
            self.refused(WrongSize, "argument", "first", function, drawn_table(6), drawn_table(2), 3)
            self.refused(WrongKind, "argument", "second", function, drawn_table(4), None, drawn_table(5))
            self.refused(WrongSize, "argument", "second", function, drawn_table(4), drawn_table(5), None)
            self.refused(WrongSize, "argument", "third", function, drawn_table(4), drawn_table(4), drawn_table(3))
            self.refused(WrongKind, "argument", "first", function, Asked(AND), AND, AND)
        self.refused(WrongSize, "argument", "orders", outcome, AND, AND, AND, [None])
        self.refused(OutOfRange, "argument", "orders", outcome, AND, AND, AND, ["abc", "ring"])


def hand_unlike(tables):
    pairs = [(0, 1), (0, 2), (1, 2)]
    constant = [len(set(table.bits)) == 1 for table in tables]
    return [(i, j) for i, j in pairs if constant[i] and constant[j] and tables[i].bits[0] != tables[j].bits[0]]


def hand_own(tables):
    found = []
    for place in range(tables[0].width):
        for bit in (0, 1):
            wanted = tuple((word // 2**place + bit) % 2 for word in range(len(tables[0])))
            if all(table.bits == wanted for table in tables):
                found.append((place, bit))
    return found


def hand_is_paper(tables, paper):
    """Whether the ring paper is right, from the words of point 48."""
    if type(paper) is not tuple or len(paper) < 2 or type(paper[0]) is not str:
        return False
    if paper[0] == "ring" and len(paper) == 2:
        ballot = paper[1]
        if type(ballot) is not list or len(ballot) != tables[0].width:
            return False
        return all(type(order) is str and order in ORDERS for order in ballot) and hand_outcome(tables, ballot) == "ring"
    if len(paper) != 3 or any(type(item) is not int for item in paper[1:]):
        return False
    right = {"unlike": hand_unlike(tables), "own": hand_own(tables)}
    return paper[1:] in right.get(paper[0], [])


def near_places(width):
    """One place table three times, and nearly so."""
    found = []
    for place in range(width):
        for bit in (0, 1):
            table = place_table(width, place, bit)
            found.append((table, table, table))
            for word in {0, 2**width - 1, 2**width // 3}:
                other = with_turned_bit(table, word)
                found += [(other, table, table), (table, other, table), (table, table, other)]
            for other in (~table, place_table(width, 0, bit), constant_table(width, bit), sum_table(width, 2**width - 1)):
                found += [(other, table, table), (table, other, table), (table, table, other)]
    return found


def near_constants(width):
    low, high = constant_table(width, 0), constant_table(width, 1)
    all_of = product_table(width, 2**width - 1)
    tables = (low, high, all_of, ~all_of, with_turned_bit(low, 0), most_table(width))
    return list(product(tables, repeat=3))


class Papers(Promises):
    def test_right_papers(self):
        for width in range(7):
            for tables in triples(width) + near_places(width) + near_constants(width)[:: 1 if width < 5 else 5]:
                self.check_paper(tables)

    def check_paper(self, tables):
        paper = ring_paper(*tables)
        self.assertTrue(hand_is_paper(tables, paper))
        self.same(is_ring_paper(*tables, paper), True)
        self.same(ring_paper(*tables), paper)
        unlike, own = hand_unlike(tables), hand_own(tables)
        if unlike:
            self.same(paper, ("unlike", *unlike[0]))
        elif own:
            self.same(paper, ("own", *own[0]))
        else:
            self.assertEqual(paper[0], "ring")
        for i in range(-1, 4):
            for j in range(-1, 4):
                self.same(is_ring_paper(*tables, ("unlike", i, j)), (i, j) in unlike)
        for place in range(-1, 7):
            for bit in range(-1, 3):
                self.same(is_ring_paper(*tables, ("own", place, bit)), (place, bit) in own)

    def test_ballots(self):
        for width in range(3):
            for tables in triples(width)[:: 1 if width < 2 else 5]:
                for ballot in product(ORDERS, repeat=width):
                    right = hand_outcome(tables, ballot) == "ring"
                    self.same(is_ring_paper(*tables, ("ring", list(ballot))), right)

    def test_told_values(self):
        low, high = constant_table(2, 0), constant_table(2, 1)
        self.same(ring_paper(low, AND, high), ("unlike", 0, 2))
        self.same(ring_paper(low, high, low), ("unlike", 0, 1))
        self.same(is_ring_paper(low, high, low, ("unlike", 1, 2)), True)
        self.same(is_ring_paper(low, high, low, ("unlike", 0, 2)), False)
        self.same(is_ring_paper(low, high, low, ("unlike", 1, 0)), False)
        self.same(ring_paper(*[place_table(5, 3, 1)] * 3), ("own", 3, 1))
        self.same(ring_paper(*[Table(0, [1])] * 3), ("ring", []))
        self.same(ring_paper(Table(0, [1]), Table(0, [1]), Table(0, [0])), ("unlike", 0, 2))
        self.same(is_ring_paper(*[Table(0, [0])] * 3, ("own", 0, 0)), False)
        self.same(is_ring_paper(AND, AND, third=AND, paper=("ring", ["abc", "abc"])), False)

    def test_wide_rings(self):
        for width in (5, 6):
            table = product_table(width, 2**width - 1)
            for tables in ((table, table, table), (~table, ~table, ~table), (table, ~table, table), (most_table(width),) * 3):
                paper = ring_paper(*tables)
                self.assertEqual((paper[0], len(paper[1])), ("ring", width))
                self.same(outcome(*tables, paper[1]), "ring")
                for index, order in enumerate(paper[1]):
                    for other in ORDERS + ("ring", "", None, 0, ["abc"], AND):
                        ballot = paper[1][:index] + [other] + paper[1][index + 1 :]
                        self.same(is_ring_paper(*tables, ("ring", ballot)), hand_is_paper(tables, ("ring", ballot)))

    def test_judge(self):
        low, high = constant_table(2, 0), constant_table(2, 1)
        cases = [(low, high, low), (low, AND, high), (place_table(2, 1, 1),) * 3, (AND, AND, AND), (AND, ~AND, low), (Table(0, [1]),) * 3]
        cases += [(Table(0, [0]), Table(0, [1]), Table(0, [1])), (place_table(1, 0, 0),) * 3, (place_table(1, 0, 1),) * 2 + (Table(1, [1, 1]),)]
        cases += [(widened(AND, 3, 5), most_table(3), most_table(3))]
        for tables in cases:
            self.check_judge(is_ring_paper, list(tables), [ring_paper(*tables)], lambda paper: hand_is_paper(tables, paper))

    def test_ballot_is_a_list_of_its_own(self):
        paper = ring_paper(AND, AND, AND)
        paper[1].append("changed")
        self.same(is_ring_paper(AND, AND, AND, ring_paper(AND, AND, AND)), True)
        self.same(is_ring_paper(AND, AND, AND, paper), False)

    def test_papers_with_tables(self):
        for paper in ((AND, 0, 1), ("own", AND, 0), ("own", 0, AND), ("ring", AND), ("ring", [AND, AND]), AND, [AND], HUGE):
            self.same(is_ring_paper(AND, AND, AND, paper), False)
            self.same(is_ring_paper(*[place_table(2, 0)] * 3, paper), False)


if __name__ == "__main__":
    unittest.main()
