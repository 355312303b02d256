"""Point 33 and the interface of influence.py."""

import unittest
from fractions import Fraction
from itertools import product

from bitshades.errors import OutOfRange, WrongKind
from bitshades.influence import (
    influence,
    influence_by_scores,
    influences,
    least_influential,
    most_influential,
    sway,
    tables_with_influences,
    total_influence,
    turning_words,
    variance,
)
from bitshades.making import constant_table, drawn_table, most_table, place_table, product_table, sum_table
from bitshades.tables import Table
from helping import HUGE, Promises, fraction_faults, place_faults, row_faults, table_faults, word_faults
from plainly import all_tables, hand_shades, ones_in, some_tables, told

AND = Table(2, [0, 0, 0, 1])


def hand_turning(table, place):
    return [word for word, bit in enumerate(table.bits) if bit != table.bits[word ^ 2**place]]


def hand_influences(table):
    return [Fraction(len(hand_turning(table, place)), len(table)) for place in range(table.width)]


def hand_sway(table, chosen):
    """The share of settings of the other places that leave the table unsettled."""
    seen = {}
    for word, bit in enumerate(table.bits):
        seen.setdefault(word & ~chosen, set()).add(bit)
    return Fraction(len([bits for bits in seen.values() if len(bits) == 2]), len(seen))


class Influences(Promises):
    def test_values(self):
        for table in some_tables():
            wanted = hand_influences(table)
            shades = hand_shades(table)
            for place in range(table.width):
                self.same(turning_words(table, place), hand_turning(table, place))
                self.same(influence(table, place), told(wanted[place]))
                self.same(influence_by_scores(table, place), told(wanted[place]))
                holding = [shade**2 for chosen, shade in enumerate(shades) if chosen // 2**place % 2]
                self.same(influence_by_scores(table, place), told(sum(holding)))
            self.same(influences(table), [told(item) for item in wanted])
            self.same(total_influence(table), told(sum(wanted, Fraction(0))))
            by_size = sum((ones_in(chosen) * shade**2 for chosen, shade in enumerate(shades)), Fraction(0))
            self.same(total_influence(table), told(by_size))
            self.same(variance(table), told(1 - shades[0] ** 2))
            self.assertGreaterEqual(Fraction(*total_influence(table)), Fraction(*variance(table)))

    def test_most_and_least(self):
        for table in some_tables(1):
            wanted = hand_influences(table)
            for function, value in ((most_influential, max(wanted)), (least_influential, min(wanted))):
                places = [place for place, item in enumerate(wanted) if item == value]
                self.same(function(table), (told(value), places))

    def test_several_places(self):
        self.same(most_influential(most_table(3)), ((1, 2), [0, 1, 2]))
        self.same(least_influential(most_table(3)), ((1, 2), [0, 1, 2]))
        self.same(most_influential(place_table(3, 1)), ((1, 1), [1]))
        self.same(least_influential(place_table(3, 1)), ((0, 1), [0, 2]))
        self.same(most_influential(sum_table(4, 5)), ((1, 1), [0, 2]))
        self.same(least_influential(constant_table(2, 1)), ((0, 1), [0, 1]))

    def test_width_0(self):
        for bit in (0, 1):
            table = Table(0, [bit])
            self.same(influences(table), [])
            self.same(total_influence(table), (0, 1))
            self.same(most_influential(table), ((0, 1), []))
            self.same(least_influential(table), ((0, 1), []))
            self.same(variance(table), (0, 1))
            self.same(sway(table, 0), (0, 1))
            for function in (turning_words, influence, influence_by_scores):
                for place in (0, 1, -1, HUGE):
                    self.refused(OutOfRange, "argument", "place", function, table, place)
                self.refused(WrongKind, "argument", "place", function, table, None)

    def test_told_values(self):
        self.same(turning_words(AND, 0), [2, 3])
        self.same(influence(AND, place=1), (1, 2))
        self.same(influence(product_table(3, 7), 2), (1, 4))
        self.same(total_influence(AND), (1, 1))
        self.same(variance(AND), (3, 4))
        self.same(variance(constant_table(5, 1)), (0, 1))

    def test_arguments(self):
        for width in (1, 3, 6):
            good = {"table": drawn_table(width, 5), "place": width - 1}
            for function in (turning_words, influence, influence_by_scores):
                self.check_function(function, good, {"table": table_faults(), "place": place_faults(width)})
        for width in (0, 2, 6):
            for function in (influences, total_influence, most_influential, least_influential, variance):
                self.check_function(function, {"table": drawn_table(width, 5)}, {"table": table_faults()})


class Sways(Promises):
    def test_values(self):
        for table in some_tables():
            sets = range(len(table)) if table.width < 6 else (0, 1, 32, 21, 42, 62, 63, 7)
            for chosen in sets:
                self.same(sway(table, chosen), told(hand_sway(table, chosen)))
                weights = [shade**2 for other, shade in enumerate(hand_shades(table)) if other & chosen]
                self.assertGreaterEqual(hand_sway(table, chosen), sum(weights, Fraction(0)))

    def test_empty_set_one_place_and_all_places(self):
        for table in some_tables():
            self.same(sway(table, 0), (0, 1))
            for place in range(table.width):
                self.same(sway(table, 2**place), influence(table, place))
            constant = table.ones in (0, len(table))
            self.same(sway(table, len(table) - 1), (0, 1) if constant else (1, 1))

    def test_arguments(self):
        for width in (0, 2, 6):
            good = {"table": drawn_table(width, 5), "chosen": 2**width - 1}
            self.check_function(sway, good, {"table": table_faults(), "chosen": word_faults(width)})


class Wanted(Promises):
    def test_all_influences(self):
        for width in range(4):
            by_influences = {}
            for table in all_tables_by_number(width):
                by_influences.setdefault(tuple(hand_influences(table)), []).append(table)
            shares = [Fraction(top, 2**width) for top in range(2**width + 1)]
            for wanted in product(shares[:: 1 if width < 3 else 2], repeat=width):
                tables = by_influences.get(wanted, [])
                self.same(tables_with_influences([told(item) for item in wanted]), tables)

    def test_no_fraction(self):
        self.same(tables_with_influences([]), [Table(0, [0]), Table(0, [1])])
        self.same(tables_with_influences(()), [Table(0, [0]), Table(0, [1])])

    def test_higher_terms_and_many_digits(self):
        self.same(tables_with_influences([(0, 5)]), [Table(1, [0, 0]), Table(1, [1, 1])])
        self.same(tables_with_influences(wanted=[(HUGE, HUGE)]), [Table(1, [1, 0]), Table(1, [0, 1])])
        self.same(tables_with_influences([(1, 2), (HUGE, 2 * HUGE)]), tables_with_influences(((2, 4), (1, 2))))
        self.same(len(tables_with_influences([(4, 8), (1, 2), (HUGE, 2 * HUGE)])), 64)

    def test_equalled_by_none(self):
        for fraction in ((1, 3), (-1, 2), (3, 2), (2, 1), (HUGE, 1), (-HUGE, 1), (1, HUGE), (HUGE, HUGE - 1), (1, 2)):
            self.same(tables_with_influences([fraction]), [])
        self.same(tables_with_influences([(1, 2), (1, 3)]), [])
        self.same(tables_with_influences([(1, 1), (0, 1), (HUGE, 2)]), [])

    def test_arguments(self):
        for wanted in ([], [(1, 1)], [(2, 4), (1, 2)], [(1, 2), (1, 2), (1, 4)]):
            faults = row_faults(wanted, 0, 3, fraction_faults())
            self.check_function(tables_with_influences, {"wanted": wanted}, {"wanted": faults})


def all_tables_by_number(width):
    return [Table.of_number(width, number) for number in range(2 ** 2**width)]


class SmallTables(Promises):
    def test_ascending_numbers(self):
        self.same(sorted(table.number for table in all_tables(2)), [table.number for table in all_tables_by_number(2)])
        found = tables_with_influences([(1, 2), (1, 2)])
        numbers = [table.number for table in found]
        self.same(numbers, sorted(numbers))
        self.same(len(numbers), 8)


if __name__ == "__main__":
    unittest.main()
