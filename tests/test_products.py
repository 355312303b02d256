"""Points 23 and 24 and the interface of products.py."""

import unittest
from fractions import Fraction
from itertools import permutations

from bitshades.errors import OutOfRange, WrongKind, WrongSize
from bitshades.making import constant_table, drawn_table, sum_table
from bitshades.parting import beside, fixed, nested, reordered, shifted
from bitshades.products import (
    agreement,
    beside_scores,
    fixed_scores,
    folding,
    inner_product,
    nested_scores,
    quick_folding,
    reordered_scores,
    scores_of_sum,
    shifted_scores,
    span_mean,
    span_mean_by_shades,
)
from bitshades.shades import quick_field, scores
from bitshades.tables import Table
from helping import HUGE, Promises, field_faults, kind_faults, row_faults, table_faults, word_faults, place_faults
from plainly import all_tables, hand_scores, odd_tables, sets_across, some_rows, some_tables, sums_of, told


def some_fields(width):
    """Fields of zeros, of one item, of small and of many digits, with negative items."""
    count = 2**width
    items = [(17 * index * index + 31 * index) % 101 - 50 for index in range(count)]
    huge = [(HUGE - 3**index) * (-1) ** index for index in range(count)]
    return [[0] * count, [0] * (count - 1) + [1], items, items[::-1], huge, drawn_table(width, 5).signs()]


def hand_folding(first, second):
    result = [0] * len(first)
    for x in range(len(first)):
        for y in range(len(first)):
            result[x ^ y] += first[x] * second[y]
    return result


def field_of(width, faults):
    """The faults of a field that must have as many items as one of the width."""
    lengths = [length for length in (0, 1, 2, 3, 4, 5, 8, 16, 32, 63, 64, 65, 128) if length != 2**width]
    faults = [(value, error) for value, error in faults if error is WrongKind and not isinstance(value, (list, tuple))]
    faults += [([0] * length, WrongSize) for length in lengths] + [([None] * length, WrongSize) for length in lengths]
    faults += [([0] * (2**width - 1) + [value], WrongKind) for value in (None, True, "1", 1.0, [0], Table(0, [0]))]
    return faults


class Fields(Promises):
    def test_inner_product(self):
        for width in range(7):
            for first in some_fields(width):
                for second in some_fields(width):
                    wanted = 0
                    for index, item in enumerate(first):
                        wanted += item * second[index]
                    self.same(inner_product(first, second), wanted)
        self.same(inner_product([HUGE], [-HUGE]), -HUGE * HUGE)
        self.same(inner_product((1, 2), [3, 4]), 11)

    def test_foldings(self):
        for width in range(7):
            for first in some_fields(width):
                for second in some_fields(width):
                    wanted = hand_folding(first, second)
                    self.same(folding(first, second), wanted)
                    self.same(quick_folding(first, second), wanted)

    def test_folding_of_one_field_twice(self):
        for width in range(7):
            for field in some_fields(width):
                self.same(folding(field, field), hand_folding(field, field))
                self.same(quick_folding(field, field), hand_folding(field, field))

    def test_told_foldings(self):
        self.same(folding([1, 2], [3, 5]), [13, 11])
        self.same(quick_folding((1, 2), (3, 5)), [13, 11])
        self.same(folding([HUGE], [HUGE]), [HUGE * HUGE])
        self.same(quick_folding([HUGE], [-1]), [-HUGE])

    def test_quick_field_of_a_folding(self):
        for width in range(5):
            for first in some_fields(width):
                second = some_fields(width)[2]
                wanted = [a * b for a, b in zip(quick_field(first), quick_field(second))]
                self.same(quick_field(folding(first, second)), wanted)

    def test_arguments(self):
        for function in (inner_product, folding, quick_folding):
            for width in (0, 1, 3, 6):
                good = {"first": some_fields(width)[2], "second": some_fields(width)[4]}
                faults = {"first": field_faults(), "second": field_of(width, field_faults())}
                self.check_function(function, good, faults)

    def test_length_ahead_of_items(self):
        for function in (inner_product, folding, quick_folding):
            self.refused(WrongSize, "argument", "second", function, [1, 2], [None])
            self.refused(WrongSize, "argument", "second", function, [1, 2], [None] * 3)
            self.refused(WrongSize, "argument", "second", function, [1, 2, 3, 4], [1, 2])
            self.refused(WrongKind, "argument", "first", function, [None, 2], [1])
            self.refused(WrongSize, "argument", "first", function, [1, 2, 3], [1, 2, 3])

    def test_returned_values_passed_again(self):
        field = some_fields(2)[4]
        long = quick_folding(field, field)
        self.same(folding(long, long), hand_folding(long, long))
        self.same(quick_folding(long, long), hand_folding(long, long))
        self.same(inner_product(long, field), sum(a * b for a, b in zip(long, field)))


class TwoTables(Promises):
    def test_agreement(self):
        for first in some_tables():
            for second in odd_tables(first.width):
                equal = sum(a == b for a, b in zip(first.bits, second.bits))
                self.same(agreement(first, second), equal - (2**first.width - equal))
            self.same(agreement(first, first), 2**first.width)
            self.same(agreement(first, ~first), -(2**first.width))

    def test_scores_of_sum(self):
        for first in some_tables():
            for second in odd_tables(first.width):
                both = Table(first.width, [(a + b) % 2 for a, b in zip(first.bits, second.bits)])
                self.same(scores_of_sum(first, second), hand_scores(both))
            self.same(scores_of_sum(first, first), hand_scores(constant_table(first.width, 0)))

    def test_arguments(self):
        for function in (agreement, scores_of_sum):
            for width in (0, 2, 6):
                others = [(drawn_table(other, 3), WrongSize) for other in range(7) if other != width]
                good = {"first": drawn_table(width, 1), "second": drawn_table(width, 2)}
                self.check_function(function, good, {"first": table_faults(), "second": table_faults() + others})


class Parts(Promises):
    def test_shifted(self):
        for table in some_tables():
            for word in {0, 1, 2**table.width // 3, 2**table.width - 1}:
                if word < 2**table.width:
                    self.same(shifted_scores(table, word), hand_scores(shifted(table, word)))

    def test_reordered(self):
        for width in range(5):
            for table in odd_tables(width)[-4:]:
                for order in permutations(range(width)):
                    self.same(reordered_scores(table, order), hand_scores(reordered(table, order)))
        for order in ([5, 3, 1, 0, 2, 4], [1, 2, 3, 4, 5, 0], [0, 1, 2, 3, 4, 5]):
            for table in odd_tables(6):
                self.same(reordered_scores(table, order), hand_scores(reordered(table, order)))

    def test_fixed(self):
        for width in range(5):
            for table in odd_tables(width):
                for chosen in range(2**width):
                    for values in range(2 ** format(chosen, "b").count("1")):
                        self.same(fixed_scores(table, chosen, values), hand_scores(fixed(table, chosen, values)))
        for table in odd_tables(6):
            for chosen, values in ((0, 0), (63, 0), (63, 41), (21, 5), (42, 3), (32, 1), (1, 0), (62, 17)):
                self.same(fixed_scores(table, chosen, values), hand_scores(fixed(table, chosen, values)))

    def test_beside(self):
        for first in some_tables(0, 2):
            for second in some_tables(0, 2):
                self.same(beside_scores(first, second), hand_scores(beside(first, second)))
        for low in range(7):
            for high in range(7 - low):
                for first, second in zip(odd_tables(low), odd_tables(high)[::-1]):
                    self.same(beside_scores(first, second), hand_scores(beside(first, second)))

    def test_nested(self):
        pairs = [(outer, inner) for outer in some_tables(0, 2) for inner in some_tables(0, 2)]
        for low in range(7):
            for high in range(7):
                if low * high <= 6:
                    pairs += [(outer, inner) for outer in odd_tables(low) for inner in odd_tables(high)]
        for outer, inner in pairs:
            if hand_scores(inner)[0] == 0:
                self.same(nested_scores(outer, inner), hand_scores(nested(outer, inner)))
            else:
                self.refused(OutOfRange, "argument", "inner", nested_scores, outer, inner)

    def test_nested_with_width_0(self):
        for bit in (0, 1):
            for outer in range(7):
                self.refused(OutOfRange, "argument", "inner", nested_scores, drawn_table(outer, 2), Table(0, [bit]))
            for width in range(1, 7):
                outer = Table(0, [bit])
                self.same(nested_scores(outer, sum_table(width, 1)), [1 - 2 * bit])
                self.refused(OutOfRange, "argument", "inner", nested_scores, outer, constant_table(width, bit))

    def test_arguments_of_parts(self):
        for width in (0, 3, 6):
            table, last = drawn_table(width, 4), 2**width - 1
            faults = {"table": table_faults(), "word": word_faults(width)}
            self.check_function(shifted_scores, {"table": table, "word": last}, faults)
            order = list(range(width))[::-1]
            faults = {"table": table_faults(), "order": row_faults(order, width, width, place_faults(width))}
            self.check_function(reordered_scores, {"table": table, "order": order}, faults)
            good = {"table": table, "chosen": last, "values": last}
            faults = {"table": table_faults(), "chosen": word_faults(width), "values": word_faults(width)}
            self.check_function(fixed_scores, good, faults)
        faults = {"table": table_faults(), "chosen": word_faults(3), "values": word_faults(2)}
        self.check_function(fixed_scores, {"table": drawn_table(3, 4), "chosen": 5, "values": 3}, faults)
        for order in ([0, 0, 1], (2, 1, 2), [0, 0, None]):
            self.refused(OutOfRange, "argument", "order", reordered_scores, drawn_table(3, 4), order)

    def test_arguments_of_two_tables(self):
        second = [(drawn_table(5, 1), WrongSize), (drawn_table(6, 1), WrongSize)]
        faults = {"first": table_faults(), "second": table_faults() + second}
        self.check_function(beside_scores, {"first": drawn_table(2, 1), "second": drawn_table(4, 1)}, faults)
        inner = [(drawn_table(3, 1), WrongSize), (sum_table(6, 1), WrongSize), (constant_table(2, 1), OutOfRange)]
        faults = {"outer": table_faults(), "inner": table_faults() + inner}
        self.check_function(nested_scores, {"outer": drawn_table(3, 1), "inner": sum_table(2, 3)}, faults)

    def test_width_ahead_of_the_score(self):
        self.refused(WrongSize, "argument", "inner", nested_scores, drawn_table(4, 1), constant_table(2, 0))
        self.refused(WrongSize, "argument", "inner", nested_scores, drawn_table(2, 1), constant_table(4, 1))


class SpanMeans(Promises):
    def test_values(self):
        for table in some_tables():
            for words in some_rows(table.width):
                signs = [1 - 2 * table.bits[word] for word in sums_of(words)]
                wanted = told(Fraction(sum(signs), len(signs)))
                self.same(span_mean(table, words), wanted)
                self.same(span_mean_by_shades(table, words), wanted)
                across = sets_across(table.width, words)
                self.same(wanted, told(Fraction(sum(scores(table)[chosen] for chosen in across), 2**table.width)))

    def test_told_values(self):
        table = Table(2, [0, 0, 0, 1])
        for function in (span_mean, span_mean_by_shades):
            self.same(function(table, []), (1, 1))
            self.same(function(table, [3]), (0, 1))
            self.same(function(table, [3, 3]), (0, 1))
            self.same(function(table, [1, 2]), (1, 2))
            self.same(function(table, words=(1, 2, 3, 3)), (1, 2))
            self.same(function(~table, []), (-1, 1))

    def test_all_small_rows(self):
        for table in all_tables(2):
            for words in [[a, b] for a in range(4) for b in range(4)]:
                self.same(span_mean(table, words), span_mean_by_shades(table, words))

    def test_arguments(self):
        for width, words in ((0, [0, 0]), (2, [3]), (3, [5, 0, 5]), (6, [63, 1, 1])):
            for function in (span_mean, span_mean_by_shades):
                faults = {"table": table_faults(), "words": row_faults(words, 0, 64, word_faults(width))}
                self.check_function(function, {"table": drawn_table(width, 3), "words": words}, faults)

    def test_tables_are_no_rows(self):
        for function in (span_mean, span_mean_by_shades):
            self.refused(WrongKind, "argument", "words", function, drawn_table(2, 1), drawn_table(2, 1))
        for function in (inner_product, folding, quick_folding):
            for value, error in kind_faults((Table(1, [0, 1]), {0: 1, 1: 1})):
                self.refused(error, "argument", "second", function, [1, 2], value)


if __name__ == "__main__":
    unittest.main()
