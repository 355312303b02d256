"""Point 25 and the interface of pairs.py."""

import unittest
from fractions import Fraction
from itertools import product

from bitshades.errors import OutOfRange, WrongKind, WrongSize
from bitshades.making import constant_table, drawn_table, sum_table
from bitshades.pairs import (
    breaking_among,
    breaking_count,
    breaking_count_by_scores,
    breaking_row,
    breaking_share,
    breaks,
    first_breaking_pair,
    is_sum_paper,
    quad_count,
    quad_count_by_scores,
    span_breaking_share,
    span_breaking_share_by_shades,
    sum_paper,
    three_count,
    three_count_by_scores,
)
from bitshades.parting import with_turned_bit
from bitshades.shades import shades
from bitshades.tables import Table
from helping import Promises, kinds, row_faults, table_faults, word_faults, word_pair_faults
from plainly import (
    all_tables,
    hand_scores,
    hand_shades,
    odd_tables,
    ones_in,
    sets_across,
    some_rows,
    some_tables,
    sums_of,
    told,
)


def broken(table, x, y):
    return (table.bits[x] + table.bits[y]) % 2 != table.bits[x ^ y]


def broken_pairs(table):
    """All pairs that break the table, in the order of x and then of y."""
    return [(x, y) for x in range(len(table)) for y in range(len(table)) if broken(table, x, y)]


def right_sum_papers(table):
    papers = [("sum", chosen) for chosen in range(len(table)) if sum_table(table.width, chosen) == table]
    return papers + [("break", x, y) for x, y in broken_pairs(table)]


class Pairs(Promises):
    def test_example(self):
        self.same(breaking_count(Table(2, [0, 0, 0, 1])), 6)

    def test_breaks(self):
        for table in some_tables(0, 4):
            for x, y in product(range(len(table)), repeat=2):
                self.same(breaks(table, x, y), broken(table, x, y))
        self.same(breaks(Table(2, [0, 0, 0, 1]), first=1, second=2), True)
        self.same(breaks(Table(2, [0, 0, 0, 1]), 1, 1), False)
        self.same(breaks(Table(0, [1]), 0, 0), True)
        self.same(breaks(Table(0, [0]), 0, 0), False)

    def test_counts(self):
        for table in some_tables():
            pairs = broken_pairs(table)
            rows = [0] * len(table)
            for x, _ in pairs:
                rows[x] += 1
            self.same(breaking_row(table), rows)
            self.same(breaking_count(table), len(pairs))
            self.same(breaking_count_by_scores(table), len(pairs))
            self.same(breaking_share(table), told(Fraction(len(pairs), 4**table.width)))
            self.same(first_breaking_pair(table), pairs[0] if pairs else None)

    def test_share_is_of_the_cubes(self):
        for table in some_tables():
            cubes = sum(shade**3 for shade in hand_shades(table))
            self.same(breaking_share(table), told((1 - cubes) / 2))

    def test_no_pair_breaks_a_sum_table(self):
        for width in range(7):
            for chosen in range(2**width):
                table = sum_table(width, chosen)
                self.same(breaking_count(table), 0)
                self.same(breaking_count_by_scores(table), 0)
                self.same(first_breaking_pair(table), None)
            self.same(breaking_count(constant_table(width, 1)), 4**width)
            self.same(first_breaking_pair(constant_table(width, 1)), (0, 0))

    def test_arguments(self):
        for width in (0, 2, 6):
            good = {"table": drawn_table(width, 8), "first": 2**width - 1, "second": 0}
            faults = {"table": table_faults(), "first": word_faults(width), "second": word_faults(width)}
            self.check_function(breaks, good, faults)
            for function in (
                breaking_row, breaking_count, breaking_count_by_scores, breaking_share, first_breaking_pair, sum_paper,
                quad_count_by_scores,
            ):
                self.check_function(function, {"table": drawn_table(width, 8)}, {"table": table_faults()})


class Among(Promises):
    def test_values(self):
        for table in some_tables(0, 4):
            last = len(table) - 1
            rows = [[], [[0, 0]], [(last, last // 2)], [[0, last], [0, last], (last, 0)]]
            rows += [[[x & last, (3 * x + 1) & last] for x in range(40)], [(last, last)] * 256, ((0, last), [last, 0])]
            for pairs in rows:
                self.same(breaking_among(table, pairs), sum(broken(table, x, y) for x, y in pairs))

    def test_an_item_counts_each_time(self):
        table = Table(2, [0, 0, 0, 1])
        self.same(breaking_among(table, [[1, 2]]), 1)
        self.same(breaking_among(table, [(1, 2), [1, 2], (2, 1), (0, 0)]), 3)
        self.same(breaking_among(table, pairs=[[1, 2]] * 256), 256)
        self.same(breaking_among(table, []), 0)

    def test_arguments(self):
        for width, pairs in ((0, [[0, 0], [0, 0]]), (2, [(1, 2)]), (3, [[7, 0], (1, 1), [6, 2]]), (6, [])):
            faults = {"table": table_faults(), "pairs": word_pair_faults(width, pairs, 0, 256)}
            self.check_function(breaking_among, {"table": drawn_table(width, 8), "pairs": pairs}, faults)
        for pairs in (drawn_table(1, 1), [drawn_table(1, 1)], [{0: 1, 1: 0}], {0: [0, 1]}):
            self.refused(WrongKind, "argument", "pairs", breaking_among, drawn_table(2, 1), pairs)


class ThreeTables(Promises):
    def test_values(self):
        for width in range(7):
            tables = odd_tables(width)
            threes = [(f, g, h) for f, g, h in zip(tables, tables[3:] + tables[:3], tables[8:] + tables[:8])]
            threes += [(f, f, f) for f in tables] + [(f, f, g) for f, g in zip(tables, tables[::-1])]
            threes += [(tables[2], tables[4], tables[2] + tables[4]), (tables[10], tables[11], tables[10] + tables[11])]
            for first, second, third in threes:
                count = 0
                for x, y in product(range(2**width), repeat=2):
                    count += (first.bits[x] + second.bits[y] + third.bits[x ^ y]) % 2
                self.same(three_count(first, second, third), count)
                self.same(three_count_by_scores(first, second, third), count)

    def test_all_small_tables(self):
        for width in range(2):
            for three in product(all_tables(width), repeat=3):
                self.same(three_count(*three), three_count_by_scores(*three))

    def test_one_table_three_times(self):
        for table in odd_tables(3):
            self.same(three_count(table, table, table), breaking_count(table))

    def test_arguments(self):
        for width in (0, 2, 6):
            others = table_faults() + [(drawn_table(other, 3), WrongSize) for other in range(7) if other != width]
            faults = {"first": table_faults(), "second": others, "third": others}
            good = {"first": drawn_table(width, 1), "second": drawn_table(width, 2), "third": drawn_table(width, 3)}
            for function in (three_count, three_count_by_scores):
                self.check_function(function, good, faults)


class Spans(Promises):
    def test_values(self):
        for table in some_tables():
            for words in some_rows(table.width):
                span = sums_of(words)
                count = sum(broken(table, x, y) for x in span for y in span)
                wanted = told(Fraction(count, len(span) ** 2))
                self.same(span_breaking_share(table, words), wanted)
                self.same(span_breaking_share_by_shades(table, words), wanted)

    def test_classes_of_sets(self):
        for table in some_tables(0, 4):
            for words in some_rows(table.width):
                across = sets_across(table.width, words)
                classes = {tuple(sorted(chosen ^ other for other in across)) for chosen in range(len(table))}
                sums = [sum(hand_shades(table)[chosen] for chosen in one) for one in classes]
                wanted = told((1 - sum(item**3 for item in sums)) / 2)
                self.same(span_breaking_share_by_shades(table, words), wanted)

    def test_no_words(self):
        for function in (span_breaking_share, span_breaking_share_by_shades):
            self.same(function(Table(2, [0, 1, 1, 1]), []), (0, 1))
            self.same(function(Table(2, [1, 1, 1, 1]), []), (1, 1))
            self.same(function(Table(2, [0, 0, 0, 1]), words=(1, 2, 1)), (3, 8))

    def test_arguments(self):
        for width, words in ((0, [0, 0]), (2, [3]), (3, [5, 0, 5]), (6, [63, 1, 1])):
            for function in (span_breaking_share, span_breaking_share_by_shades):
                faults = {"table": table_faults(), "words": row_faults(words, 0, 64, word_faults(width))}
                self.check_function(function, {"table": drawn_table(width, 3), "words": words}, faults)


class Triples(Promises):
    def test_values(self):
        for table in some_tables(0, 4):
            bits = table.bits
            count = 0
            for x, y, z in product(range(len(bits)), repeat=3):
                count += (bits[x] + bits[y] + bits[z]) % 2 != bits[x ^ y ^ z]
            self.same(quad_count(table), count)
            self.same(quad_count_by_scores(table), count)

    def test_wider_tables(self):
        for table in some_tables(5, 6):
            fourth = sum(item**4 for item in hand_scores(table))
            self.same(quad_count_by_scores(table), (8**table.width - fourth // 2**table.width) // 2)
            self.refused(WrongSize, "argument", "table", quad_count, table)
        self.same(quad_count_by_scores(with_turned_bit(sum_table(6, 9), 5)), quad_count_by_scores(~drawn_one(6)))

    def test_arguments(self):
        wide = [(drawn_table(5, 1), WrongSize), (drawn_table(6, 1), WrongSize)]
        for width in range(5):
            self.check_function(quad_count, {"table": drawn_table(width, 3)}, {"table": table_faults() + wide})


def drawn_one(width):
    """The table with one bit 1."""
    return with_turned_bit(constant_table(width, 0), 5)


class SumPapers(Promises):
    def test_example(self):
        self.same(sum_paper(Table(2, [0, 0, 0, 1])), ("break", 1, 2))

    def test_papers(self):
        for table in some_tables():
            papers = right_sum_papers(table)
            self.same(sum_paper(table), papers[0])
            self.assertEqual(len({paper[0] for paper in papers}), 1)
        for width in range(7):
            for chosen in range(2**width):
                self.same(sum_paper(sum_table(width, chosen)), ("sum", chosen))
                self.same(is_sum_paper(sum_table(width, chosen), ("sum", chosen)), True)

    def test_judge(self):
        for table in some_tables(0, 3):
            papers = right_sum_papers(table)
            known = [kinds(paper) for paper in papers]
            self.check_judge(is_sum_paper, [table], papers[:6] + papers[-2:], lambda paper: kinds(paper) in known)

    def test_judge_of_all_small_papers(self):
        for table in some_tables(0, 2):
            right = right_sum_papers(table)
            for word in ("sum", "break", "own", ""):
                for rest in [(), (0,), (1,), (3,), (4,), (0, 0), (1, 2), (3, 3), (4, 0), (0, 4), (-1, 0), (0, 0, 0)]:
                    self.same(is_sum_paper(table, (word,) + rest), (word,) + rest in right)

    def test_judge_of_wide_tables(self):
        table = with_turned_bit(sum_table(6, 41), 5)
        for x, y in product(range(64), repeat=2):
            self.same(is_sum_paper(table, ("break", x, y)), broken(table, x, y))
        for chosen in range(64):
            self.same(is_sum_paper(table, ("sum", chosen)), False)
            self.same(is_sum_paper(~sum_table(6, 41), ("sum", chosen)), False)
            self.same(is_sum_paper(sum_table(6, 41), ("sum", chosen)), chosen == 41)

    def test_arguments(self):
        good = {"table": Table(2, [0, 0, 0, 1]), "paper": ("break", 1, 2)}
        self.check_function(is_sum_paper, good, {"table": table_faults(), "paper": []})

    def test_one_kind_of_paper(self):
        for table in some_tables(0, 2):
            chosen = [item for item in range(len(table)) if shades(table)[item] == (1, 1)]
            self.same([("sum", one) for one in chosen] != [], sum_paper(table)[0] == "sum")
            self.assertTrue(all(ones_in(one) <= table.width for one in chosen))


class NoWords(Promises):
    def test_ranges(self):
        for first, second in ((4, 0), (0, 4), (-1, 0), (0, -1)):
            told_of = "first" if first in (4, -1) else "second"
            self.refused(OutOfRange, "argument", told_of, breaks, Table(2, [0, 0, 0, 1]), first, second)


if __name__ == "__main__":
    unittest.main()
