"""Point 36 and the interface of degree.py."""

import unittest
from itertools import product
from math import gcd

from bitshades.degree import (
    bit_degree,
    bit_terms,
    degree,
    degree_by_terms,
    field_degree,
    grain,
    power_sums,
    table_of_bit_terms,
    table_of_terms,
    terms,
)
from bitshades.errors import NotATable, WrongSize
from bitshades.influence import influences
from bitshades.making import constant_table, drawn_table, most_table, product_table, sum_table
from bitshades.shades import quick_field
from bitshades.tables import Table
from helping import HUGE, Promises, field_faults, integer_faults, row_faults, table_faults, width_faults
from plainly import all_tables, hand_scores, ones_in, sign, some_tables, within

AND = Table(2, [0, 0, 0, 1])


def parts_of(chosen):
    return [part for part in range(chosen + 1) if part & chosen == part]


def hand_terms(table):
    wanted = []
    for chosen in range(len(table)):
        signs = [sign(ones_in(chosen) - ones_in(part)) * table.bits[part] for part in parts_of(chosen)]
        wanted.append(sum(signs))
    return wanted


def greatest_size(field):
    return max([ones_in(chosen) for chosen, item in enumerate(field) if item] + [0])


def hand_sums(field):
    """For each word the sum of the items at its subsets."""
    return [sum(field[part] for part in parts_of(word)) for word in range(len(field))]


class Degrees(Promises):
    def test_values(self):
        for table in some_tables():
            scores = hand_scores(table)
            wanted = greatest_size(scores)
            self.same(degree(table), wanted)
            self.same(degree_by_terms(table), wanted)
            self.same(grain(table), gcd(*scores))
            self.assertGreaterEqual(wanted, bit_degree(table))
            least = 2 ** (table.width + 1 - wanted) if wanted else 2**table.width
            self.assertEqual(grain(table) % least, 0)
            self.assertEqual(wanted, greatest_size(hand_terms(table)))
            counting = len([item for item in influences(table) if item != (0, 1)])
            self.assertLessEqual(counting, wanted * 2 ** max(wanted - 1, 0))

    def test_constant_tables(self):
        for width in range(7):
            for bit in (0, 1):
                table = constant_table(width, bit)
                for function in (degree, degree_by_terms, bit_degree):
                    self.same(function(table), 0)
                self.same(grain(table), 2**width)

    def test_sum_and_product_tables(self):
        for width in range(7):
            for chosen in range(2**width):
                size = ones_in(chosen)
                self.same(degree(sum_table(width, chosen)), size)
                self.same(degree_by_terms(sum_table(width, chosen)), size)
                self.same(bit_degree(sum_table(width, chosen)), min(size, 1))
                self.same(grain(sum_table(width, chosen)), 2**width)
                self.same(degree(product_table(width, chosen)), size)
                self.same(bit_degree(product_table(width, chosen)), size)
        self.same(grain(AND), 2)
        self.same(grain(most_table(3)), 4)

    def test_degree_below_the_width(self):
        table = Table(3, [0, 1, 1, 1, 1, 1, 1, 0])
        self.same(degree(table), 2)
        self.same(degree_by_terms(table), 2)
        self.same(bit_degree(table), 2)

    def test_arguments(self):
        for width in (0, 2, 6):
            for function in (degree, degree_by_terms, terms, bit_terms, bit_degree, grain):
                self.check_function(function, {"table": drawn_table(width, 5)}, {"table": table_faults()})


class Terms(Promises):
    def test_example(self):
        self.same(terms(sum_table(2, 3)), [0, 1, 1, -2])

    def test_values(self):
        for table in some_tables():
            wanted = hand_terms(table)
            self.same(terms(table), wanted)
            self.same(table_of_terms(wanted), table)
            self.same(table_of_terms(tuple(wanted)), table)
            self.assertEqual(hand_sums(wanted), list(table.bits))
            self.same(bit_terms(table), [term % 2 for term in wanted])
            self.same(bit_degree(table), greatest_size([term % 2 for term in wanted]))
            self.same(table_of_bit_terms(table.width, bit_terms(table)), table)

    def test_all_small_fields(self):
        for length, reach in ((1, 3), (2, 3), (4, 2)):
            for field in product(range(-reach, reach + 1), repeat=length):
                bits = hand_sums(field)
                if all(bit in (0, 1) for bit in bits):
                    self.same(table_of_terms(list(field)), Table(length.bit_length() - 1, bits))
                else:
                    self.refused_as_no_table(list(field))

    def refused_as_no_table(self, field):
        with self.assertRaises(NotATable) as caught:
            table_of_terms(field)
        self.assertIs(type(caught.exception), NotATable)
        self.assertEqual(vars(caught.exception), {})

    def test_fields_of_no_table(self):
        for field in ([2], [-1], [HUGE], [0, 2], [1, 1], [HUGE, -HUGE], [0, HUGE], [1] * 64, [0] * 63 + [2]):
            self.refused_as_no_table(field)
            self.refused_as_no_table(tuple(field))
        for width in range(7):
            field = terms(drawn_table(width, 3))
            for index in range(2**width):
                for change in (2, -2, HUGE, -HUGE):
                    self.refused_as_no_table(field[:index] + [field[index] + change] + field[index + 1 :])

    def test_bit_terms_always_give_a_table(self):
        for width in range(3):
            for bits in product((0, 1), repeat=2**width):
                wanted = Table(width, [total % 2 for total in hand_sums(bits)])
                self.same(table_of_bit_terms(width, bits), wanted)
                self.same(bit_terms(wanted), list(bits))
        for table in some_tables(3):
            wanted = Table(table.width, [total % 2 for total in hand_sums(table.bits)])
            self.same(table_of_bit_terms(table.width, list(table.bits)), wanted)
            self.same(bit_terms(wanted), list(table.bits))

    def test_subsets_of_the_words(self):
        table = drawn_table(4, 6)
        for word in range(16):
            total = sum(term for chosen, term in enumerate(terms(table)) if within(chosen, word))
            self.same(total, table.bits[word])

    def test_arguments(self):
        for field in ([1], [0, 1], (0, 1, 1, -2), terms(drawn_table(6, 8))):
            self.check_function(table_of_terms, {"field": field}, {"field": field_faults()})
        for width in range(6):
            bits = list(drawn_table(width, 5).bits)
            faults = {"width": width_faults(), "bits": row_faults(bits, 2**width, 2**width, integer_faults(0, 1))}
            self.check_function(table_of_bit_terms, {"width": width, "bits": bits}, faults)
        self.refused(WrongSize, "argument", "bits", table_of_bit_terms, 2, [0, 1])
        self.refused(WrongSize, "argument", "bits", table_of_bit_terms, 1, [None] * 4)


def some_fields(width):
    count = 2**width
    items = [(17 * index * index + 31 * index) % 101 - 50 for index in range(count)]
    huge = [(HUGE - 3**index) * (-1) ** index for index in range(count)]
    flat = quick_field([int(index == count - 1) for index in range(count)])
    low = quick_field([int(ones_in(index) <= 1) * (index - 2) for index in range(count)])
    return [[0] * count, [5] * count, items, huge, flat, low, [0] * (count - 1) + [HUGE]]


class Fields(Promises):
    def test_degree(self):
        for width in range(7):
            for field in some_fields(width):
                signed = []
                for chosen in range(len(field)):
                    signed.append(sum(item * sign(ones_in(chosen & word)) for word, item in enumerate(field)))
                self.same(field_degree(field), greatest_size(signed))
                self.same(field_degree(tuple(field)), greatest_size(signed))
            self.same(field_degree([0] * 2**width), 0)
            self.same(field_degree([HUGE] * 2**width), 0)
        for table in some_tables():
            self.same(field_degree(table.signs()), degree(table))

    def test_told_degrees(self):
        self.same(field_degree([1, 2]), 1)
        self.same(field_degree([3, 3]), 0)
        self.same(field_degree([1, 0, 0, 1]), 2)
        self.same(field_degree([0, 1, 1, 2]), 1)
        self.same(field_degree([7]), 0)

    def test_power_sums(self):
        for width in range(7):
            for field in some_fields(width):
                wanted = (sum(item * item for item in field), sum(item * item * item * item for item in field))
                self.same(power_sums(field), wanted)
                self.same(power_sums(tuple(field)), wanted)
                limit = 9 ** field_degree(field) * wanted[0] ** 2
                self.assertLessEqual(2**width * wanted[1], limit)
        self.same(power_sums([1, -2]), (5, 17))
        self.same(power_sums(field=(HUGE,)), (HUGE**2, HUGE**4))

    def test_arguments(self):
        for function in (field_degree, power_sums):
            for field in ([5], [1, -2], (1, 2, 3, 4), some_fields(6)[3]):
                self.check_function(function, {"field": field}, {"field": field_faults()})


class Tables(Promises):
    def test_degree_of_all_small_tables(self):
        for width in range(4):
            for table in all_tables(width):
                self.same(degree(table), degree_by_terms(table))


if __name__ == "__main__":
    unittest.main()
