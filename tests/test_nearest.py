"""Point 26 and the interface of nearest.py."""

import unittest
from fractions import Fraction

from bitshades.errors import WrongPaper, WrongSize
from bitshades.making import constant_table, drawn_table, product_table, sum_table
from bitshades.nearest import (
    distance,
    distances,
    is_nearest_paper,
    nearest,
    nearest_from_paper,
    nearest_paper,
    sum_distance,
    sums_within,
    turned_nearest,
    unique_nearest,
    unlike,
)
from bitshades.pairs import breaking_share
from bitshades.parting import with_turned_bit
from bitshades.tables import Table
from helping import ANY_VALUES, Promises, changes, kinds, share_faults, table_faults, without_bools
from plainly import hand_scores, odd_tables, some_tables, told

AND = Table(2, [0, 0, 0, 1])


def differing(first, second):
    return sum(a != b for a, b in zip(first.bits, second.bits))


def hand_distances(table):
    return [differing(table, sum_table(table.width, chosen)) for chosen in range(len(table))]


def is_int(value):
    return isinstance(value, int) and not isinstance(value, bool)


def is_right(table, paper):
    """Whether a value is a right nearest paper, from the words of point 26."""
    if not isinstance(paper, list) or not paper:
        return False
    scores = hand_scores(table)
    squares, best, sets = 4**table.width, None, []
    for item in paper:
        if not isinstance(item, tuple) or len(item) != 2 or not is_int(item[0]) or not is_int(item[1]):
            return False
        if item[0] < 0 or item[0] >= len(scores) or item[0] in sets or item[1] != scores[item[0]]:
            return False
        sets.append(item[0])
        squares -= item[1] ** 2
        best = item[1] if best is None else max(best, item[1])
    return len(sets) == len(scores) or (best > 0 and squares < best * best)


def ordered_items(table):
    """All tuples (S, score) by descending absolute score, and by set among equal ones."""
    items = list(enumerate(hand_scores(table)))
    return sorted(items, key=lambda item: (-abs(item[1]), item[0]))


class Distances(Promises):
    def test_example(self):
        self.same(nearest(AND), (1, [0, 1, 2]))

    def test_unlike(self):
        for first in some_tables():
            for second in odd_tables(first.width):
                self.same(unlike(first, second), differing(first, second))
                self.same(distance(first, second), told(Fraction(differing(first, second), len(first))))
            self.same(unlike(first, first), 0)
            self.same(distance(first, ~first), (1, 1))

    def test_values(self):
        for table in some_tables():
            counts = hand_distances(table)
            least = min(counts)
            sets = [chosen for chosen, count in enumerate(counts) if count == least]
            self.same(distances(table), counts)
            self.same(nearest(table), (least, sets))
            self.same(sum_distance(table), told(Fraction(least, len(table))))
            self.same(unique_nearest(table), sets[0] if Fraction(least, len(table)) < Fraction(1, 4) else None)
            self.assertGreaterEqual(Fraction(*breaking_share(table)), Fraction(least, len(table)))

    def test_turned_nearest(self):
        for table in some_tables():
            counts = {}
            for chosen in range(len(table)):
                counts[(chosen, 0)] = differing(table, sum_table(table.width, chosen))
                counts[(chosen, 1)] = differing(table, ~sum_table(table.width, chosen))
            least = min(counts.values())
            self.same(turned_nearest(table), (least, [pair for pair in sorted(counts) if counts[pair] == least]))

    def test_below_at_and_above_a_quarter(self):
        below = with_turned_bit(sum_table(4, 6), 9)
        for word in (1, 4):
            below = with_turned_bit(below, word)
        self.same(sum_distance(below), (3, 16))
        self.same(unique_nearest(below), 6)
        self.same(nearest(below), (3, [6]))
        self.same(sum_distance(AND), (1, 4))
        self.same(unique_nearest(AND), None)
        self.same(sum_distance(Table(1, [1, 1])), (1, 2))
        self.same(unique_nearest(Table(1, [1, 1])), None)
        self.same(nearest(Table(1, [1, 1])), (1, [1]))
        self.same(unique_nearest(Table(0, [0])), 0)
        self.same(unique_nearest(Table(0, [1])), None)
        self.same(nearest(Table(0, [1])), (1, [0]))

    def test_just_below_a_quarter(self):
        for width in range(2, 7):
            for chosen in (0, 1, 2**width - 1):
                table = sum_table(width, chosen)
                for word in range(2**width // 4):
                    self.same(unique_nearest(table), chosen)
                    table = with_turned_bit(table, (5 * word + 2) % 2**width)
                self.same(sum_distance(table), (1, 4))
                self.same(unique_nearest(table), None)

    def test_one_nearest_set_at_a_quarter_and_above(self):
        found = []
        for number in range(256):
            table = Table.of_number(3, number)
            count, sets = nearest(table)
            if 4 * count >= len(table) and len(sets) == 1:
                found.append(number)
                self.same(unique_nearest(table), None)
        self.assertTrue(found)

    def test_arguments(self):
        for width in (0, 2, 6):
            others = [(drawn_table(other, 3), WrongSize) for other in range(7) if other != width]
            good = {"first": drawn_table(width, 1), "second": drawn_table(width, 2)}
            for function in (unlike, distance):
                self.check_function(function, good, {"first": table_faults(), "second": table_faults() + others})
            for function in (distances, nearest, sum_distance, unique_nearest, turned_nearest, nearest_paper):
                self.check_function(function, {"table": drawn_table(width, 8)}, {"table": table_faults()})


class Within(Promises):
    SHARES = (
        (0, 1), (0, 10000), (1, 4), (2, 8), (2500, 10000), (2499, 10000), (2501, 10000), (1, 2), (1, 1), (7, 7), (1, 8),
        (1, 16), (3, 16), (30, 160), (5, 16), (9, 32), (10000, 10000), (9999, 10000), (1, 64), (31, 64), (32, 64),
    )

    def test_values(self):
        for table in some_tables():
            counts = [Fraction(count, len(table)) for count in hand_distances(table)]
            for share in self.SHARES:
                wanted = [chosen for chosen, count in enumerate(counts) if count <= Fraction(*share)]
                self.same(sums_within(table, share), wanted)

    def test_just_met(self):
        for share in ((1, 4), (2, 8), (2500, 10000), (2501, 10000)):
            self.same(sums_within(AND, share), [0, 1, 2])
        self.same(sums_within(AND, (2499, 10000)), [])
        self.same(sums_within(AND, share=(7499, 10000)), [0, 1, 2])
        self.same(sums_within(AND, (75, 100)), [0, 1, 2, 3])

    def test_arguments(self):
        for width in (0, 2, 6):
            good = {"table": drawn_table(width, 5), "share": (4, 16)}
            self.check_function(sums_within, good, {"table": table_faults(), "share": share_faults()})


class Papers(Promises):
    def test_paper_of_a_table(self):
        for table in some_tables():
            items = ordered_items(table)
            right = [items[:count] for count in range(1, len(items) + 1) if is_right(table, items[:count])]
            self.same(nearest_paper(table), right[0])
            self.same(is_nearest_paper(table, right[0]), True)
            self.same(nearest_from_paper(table, right[0]), nearest(table))

    def test_told_papers(self):
        self.same(nearest_paper(sum_table(3, 5)), [(5, 8)])
        self.same(nearest_paper(AND), [(0, 2), (1, 2), (2, 2), (3, -2)])
        self.same(nearest_paper(Table(0, [0])), [(0, 1)])
        self.same(nearest_paper(Table(0, [1])), [(0, -1)])
        self.same(nearest_paper(product_table(3, 7)), [(0, 6)])
        self.same(nearest_paper(Table(2, [0, 1, 1, 1])), [(0, -2), (1, 2), (2, 2), (3, 2)])
        self.same(nearest_paper(constant_table(1, 1)), [(0, -2), (1, 0)])

    def test_each_beginning(self):
        for table in some_tables(0, 4):
            items = ordered_items(table)
            for count in range(len(items) + 1):
                for paper in (items[:count], items[:count][::-1], items[count:]):
                    self.check_paper(table, paper)

    def check_paper(self, table, paper):
        wanted = is_right(table, paper)
        self.same(is_nearest_paper(table, paper), wanted, paper)
        if wanted:
            before = kinds(paper)
            self.same(nearest_from_paper(table, paper), nearest(table))
            self.same(kinds(paper), before)
        else:
            self.refused(WrongPaper, "paper_of", "nearest", nearest_from_paper, table, paper)

    def test_judge(self):
        for table in some_tables(0, 2) + odd_tables(3)[2:8]:
            right = [nearest_paper(table), list(enumerate(hand_scores(table)))]
            right += [right[0][::-1], right[1][::-1]]
            self.check_judge(is_nearest_paper, [table], right, lambda paper: is_right(table, paper))

    def test_from_changed_papers(self):
        for table in (AND, Table(1, [1, 1]), with_turned_bit(sum_table(3, 6), 2)):
            paper = nearest_paper(table)
            for other in changes(paper) + list(ANY_VALUES):
                if is_right(table, other) or not is_right(table, without_bools(other)):
                    self.check_paper(table, other)

    def test_a_score_that_is_too_close(self):
        # With R equal to B * B nothing is settled.
        table = Table(2, [0, 0, 0, 1])
        self.same(is_nearest_paper(table, [(0, 2), (1, 2), (2, 2)]), False)
        self.same(is_nearest_paper(table, [(0, 2), (1, 2), (2, 2), (3, -2)]), True)
        self.same(is_nearest_paper(table, [(3, -2), (2, 2), (0, 2), (1, 2)]), True)
        self.same(is_nearest_paper(~sum_table(2, 1), [(1, -4)]), False)
        self.same(nearest_from_paper(~sum_table(2, 1), [(3, 0), (0, 0), (1, -4), (2, 0)]), (2, [0, 2, 3]))

    def test_arguments(self):
        good = {"table": AND, "paper": nearest_paper(AND)}
        for function in (is_nearest_paper, nearest_from_paper):
            self.check_faults(function, good, {"table": table_faults(), "paper": []})
            self.same(function(**good), function(*good.values()))
            for value, error in table_faults():
                self.refused(error, "argument", "table", function, value, None)


if __name__ == "__main__":
    unittest.main()
