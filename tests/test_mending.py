"""Point 27 and the interface of mending.py."""

import unittest
from fractions import Fraction

from bitshades.making import constant_table, drawn_table, sum_table
from bitshades.mending import (
    even_words,
    is_mend_log,
    margin,
    margins,
    margins_by_scores,
    mend_log,
    mended,
    mended_times,
    votes_at,
)
from bitshades.nearest import nearest, sum_distance
from bitshades.parting import with_turned_bit
from bitshades.tables import Table
from helping import Promises, integer_faults, kinds, table_faults, word_faults
from plainly import hand_scores, odd_tables, ones_in, sign, some_tables

AND = Table(2, [0, 0, 0, 1])


def hand_votes(table, word):
    votes = [(table.bits[y] + table.bits[word ^ y]) % 2 for y in range(len(table))]
    return (votes.count(0), votes.count(1))


def hand_mended(table):
    bits = []
    for word, old in enumerate(table.bits):
        zeros, ones = hand_votes(table, word)
        bits.append(old if zeros == ones else int(ones > zeros))
    return Table(table.width, bits)


class Votes(Promises):
    def test_values(self):
        for table in some_tables():
            votes = [hand_votes(table, word) for word in range(len(table))]
            leads = [zeros - ones for zeros, ones in votes]
            self.same([votes_at(table, word) for word in range(len(table))], votes)
            self.same([margin(table, word) for word in range(len(table))], leads)
            self.same(margins(table), leads)
            self.same(margins_by_scores(table), leads)
            self.same(even_words(table), [word for word, lead in enumerate(leads) if lead == 0])
            self.same(votes_at(table, 0), (len(table), 0))

    def test_margin_is_of_the_squares(self):
        for table in some_tables(0, 4):
            scores = hand_scores(table)
            for word in range(len(table)):
                total = sum(item**2 * sign(ones_in(chosen & word)) for chosen, item in enumerate(scores))
                self.same(margin(table, word) * len(table), total)

    def test_even_votes(self):
        self.same(votes_at(AND, 1), (2, 2))
        self.same(margins(AND), [4, 0, 0, 0])
        self.same(even_words(AND), [1, 2, 3])
        self.same(mended(AND), AND)
        self.same(mended(~AND), Table(2, [0, 1, 1, 0]))
        self.same(even_words(constant_table(2, 1)), [])

    def test_arguments(self):
        for width in (0, 2, 6):
            table = drawn_table(width, 8)
            faults = {"table": table_faults(), "word": word_faults(width)}
            for function in (votes_at, margin):
                self.check_function(function, {"table": table, "word": 2**width - 1}, faults)
            for function in (margins, margins_by_scores, mended, even_words, mend_log):
                self.check_function(function, {"table": table}, {"table": table_faults()})


class Mended(Promises):
    def test_values(self):
        for table in some_tables():
            self.same(mended(table), hand_mended(table))
            self.same(mended_times(table), hand_mended(table))
            wanted = table
            for rounds in range(9):
                self.same(mended_times(table, rounds), wanted)
                wanted = hand_mended(wanted)

    def test_no_round(self):
        for table in some_tables():
            self.same(mended_times(table, rounds=0), table)

    def test_rounds_that_differ(self):
        found = [table for table in some_tables() if mended_times(table, 2) != mended_times(table, 1)]
        self.assertTrue(found)

    def test_near_a_sum_table(self):
        for width in range(2, 7):
            for chosen in (0, 1, 2**width - 1):
                table, right = sum_table(width, chosen), sum_table(width, chosen)
                for word in range((len(table) - 1) // 4):
                    table = with_turned_bit(table, 3 * word % len(table))
                self.assertLess(Fraction(*sum_distance(table)), Fraction(1, 4))
                self.same(mended(table), right)
                count = nearest(table)[0]
                for word, lead in enumerate(margins(table)):
                    self.assertGreaterEqual(lead * right.sign(word), len(table) - 4 * count)

    def test_arguments(self):
        for width in (0, 2, 6):
            good = {"table": drawn_table(width, 8), "rounds": 8}
            self.check_function(mended_times, good, {"table": table_faults(), "rounds": integer_faults(0, 8)})


class Logs(Promises):
    def test_values(self):
        for table in some_tables():
            bits = hand_mended(table).bits
            wanted = [(word, *hand_votes(table, word), bit) for word, bit in enumerate(bits)]
            self.same(mend_log(table), wanted)
            self.same(is_mend_log(table, wanted), True)

    def test_told_log(self):
        self.same(mend_log(AND), [(0, 4, 0, 0), (1, 2, 2, 0), (2, 2, 2, 0), (3, 2, 2, 1)])
        self.same(mend_log(Table(0, [1])), [(0, 1, 0, 0)])

    def test_judge(self):
        for table in some_tables(0, 2) + odd_tables(3)[4:10]:
            right = kinds(mend_log(table))
            self.check_judge(is_mend_log, [table], [mend_log(table)], lambda log: kinds(log) == right)

    def test_judge_of_a_wide_table(self):
        table = drawn_table(6, 12)
        log = mend_log(table)
        self.same(is_mend_log(table, log), True)
        for index, row in enumerate(log):
            for place in range(4):
                for change in (1, -1):
                    other = row[:place] + (row[place] + change,) + row[place + 1 :]
                    self.same(is_mend_log(table, log[:index] + [other] + log[index + 1 :]), False)
            self.same(is_mend_log(table, log[:index] + log[index + 1 :]), False)
            self.same(is_mend_log(table, log + [row]), False)

    def test_arguments(self):
        good = {"table": AND, "log": mend_log(AND)}
        self.check_faults(is_mend_log, good, {"table": table_faults(), "log": []})
        self.same(is_mend_log(**good), True)
        self.same(is_mend_log(log=None, table=AND), False)


if __name__ == "__main__":
    unittest.main()
