"""Point 45 and the interface of counts.py."""

import unittest
from itertools import product

from bitshades.asking import Asked
from bitshades.counts import MEASURES, all_tables, measure_of, tables_like, tables_where, tally
from bitshades.errors import OutOfRange, WrongKind, WrongSize
from bitshades.making import constant_table, drawn_table, most_table, place_table, sum_table, weighted_table
from bitshades.shades import low_scores
from bitshades.tables import Table
from helping import HUGE, NO_TEXTS, Promises, integer_faults, kind_faults, table_faults, width_faults
from plainly import all_tables as tables_by_hand
from plainly import flipped, hand_scores, number_of, ones_in, some_tables, sum_breaks

AND = Table(2, [0, 0, 0, 1])
NO_MEASURES = ("", "one", "Ones", " ones", "ones ", "turn", "score", "ones\n", "unlikely", "x" * 201, "degree" * 100)


def measure_faults():
    return kind_faults(NO_TEXTS) + [(value, OutOfRange) for value in NO_MEASURES]


def narrow_width_faults():
    return width_faults() + [(width, OutOfRange) for width in (4, 5, 6)]


def hand_measures(table):
    bits = table.bits
    words = range(len(bits))
    sums = [[ones_in(chosen & word) % 2 for word in words] for chosen in words]
    turns = [(word, place) for word in words for place in range(table.width) if bits[word] != bits[flipped(word, place)]]
    return {
        "ones": sum(bits),
        "unlike": min(len([1 for one, two in zip(bits, row) if one != two]) for row in sums),
        "breaking": sum_breaks(table),
        "turns": len(turns),
        "degree": max([ones_in(chosen) for chosen, item in enumerate(hand_scores(table)) if item] + [0]),
        "falls": len([1 for word, place in turns if bits[word] == 1 and word // 2**place % 2 == 0]),
    }


class Measures(Promises):
    def test_values(self):
        for table in some_tables() + tables_by_hand(3)[::7]:
            for measure, value in hand_measures(table).items():
                self.same(measure_of(table, measure), value, measure)

    def test_names(self):
        self.same(MEASURES, ("ones", "unlike", "breaking", "turns", "degree", "falls"))

    def test_told_values(self):
        self.same([measure_of(AND, measure) for measure in MEASURES], [1, 1, 6, 4, 2, 0])
        self.same([measure_of(~sum_table(2, 3), measure) for measure in MEASURES], [2, 2, 16, 8, 2, 2])
        self.same([measure_of(Table(0, [1]), measure) for measure in MEASURES], [1, 1, 1, 0, 0, 0])
        self.same(measure_of(place_table(6, 2, 1), "turns"), 64)
        self.same(measure_of(place_table(6, 2, 1), "falls"), 32)
        self.same(measure_of(measure="degree", table=constant_table(6, 1)), 0)

    def test_arguments(self):
        for table in (Table(0, [1]), AND, drawn_table(6, 5)):
            for measure in MEASURES:
                self.check_calls(measure_of, {"table": table, "measure": measure})
            self.check_function(measure_of, {"table": table, "measure": "ones"}, {"table": table_faults(), "measure": measure_faults()})
        self.refused(WrongKind, "argument", "table", measure_of, Asked(AND), "nothing")


class Tallies(Promises):
    def test_all_tables(self):
        for width in range(4):
            wanted = sorted(tables_by_hand(width), key=number_of)
            self.same(all_tables(width), wanted)
            self.assertEqual([table.number for table in all_tables(width)], list(range(2 ** 2**width)))

    def test_tallies(self):
        for width in range(4):
            told = [hand_measures(table) for table in sorted(tables_by_hand(width), key=number_of)]
            for measure in MEASURES:
                values = [one[measure] for one in told]
                self.same(tally(width, measure), [(value, values.count(value)) for value in sorted(set(values))])
                self.assertEqual(sum(count for _, count in tally(width, measure)), 2 ** 2**width)
                for value in list(range(-1, max(values) + 2)) + [HUGE, -HUGE]:
                    right = [Table.of_number(width, number) for number, one in enumerate(values) if one == value]
                    self.same(tables_where(width, measure, value), right)

    def test_told_values(self):
        self.same(tally(1, "ones"), [(0, 1), (1, 2), (2, 1)])
        self.same(tally(2, "degree"), [(0, 2), (1, 4), (2, 10)])
        self.same(tally(0, "falls"), [(0, 2)])
        self.same(tally(3, "unlike")[:2], [(0, 8), (1, 64)])
        self.same(tables_where(2, "ones", 4), [Table(2, [1, 1, 1, 1])])
        self.same(tables_where(value=7, measure="ones", width=2), [])

    def test_arguments(self):
        for width in (0, 1, 2):
            self.check_function(all_tables, {"width": width}, {"width": narrow_width_faults()})
            good, faults = {"width": width, "measure": "turns"}, {"width": narrow_width_faults(), "measure": measure_faults()}
            self.check_function(tally, good, faults)
            self.check_function(tables_where, {**good, "value": 2}, {**faults, "value": integer_faults()})
        self.check_calls(tables_where, {"width": 3, "measure": "falls", "value": 5})


class Likes(Promises):
    def test_tables_like(self):
        for width in range(4):
            low = {}
            for table in sorted(tables_by_hand(width), key=number_of):
                scores = hand_scores(table)
                key = tuple([scores[0]] + [scores[2**place] for place in range(width)])
                low.setdefault(key, []).append(table)
            for tables in low.values():
                for table in tables[::3]:
                    self.same(tables_like(table), tables)
                    self.same(low_scores(table), low_scores(tables[0]))

    def test_weighted_tables_are_alone(self):
        for width in range(4):
            for weights in product((-2, 0, 1, 3), repeat=width):
                for bound in range(-3, 4):
                    table = weighted_table(list(weights), bound)
                    self.same(tables_like(table), [table])

    def test_told_values(self):
        self.same(tables_like(sum_table(2, 3)), [sum_table(2, 3), ~sum_table(2, 3)])
        self.same(tables_like(most_table(3)), [most_table(3)])
        self.same(tables_like(Table(0, [1])), [Table(0, [1])])

    def test_arguments(self):
        wide = [(drawn_table(width, 1), WrongSize) for width in (4, 5, 6)]
        for table in (Table(0, [1]), AND, drawn_table(3, 5)):
            self.check_function(tables_like, {"table": table}, {"table": table_faults() + wide})


if __name__ == "__main__":
    unittest.main()
