"""Points 30 to 32 and the interface of seeking.py."""

import unittest
from fractions import Fraction

from bitshades.asking import Asked
from bitshades.errors import OutOfRange, Spent, WrongKind
from bitshades.making import drawn_table, sum_table
from bitshades.nearest import sums_within
from bitshades.parting import with_turned_bit
from bitshades.seeking import (
    greatest_error,
    is_near_log,
    kept_bound,
    near_log,
    near_sets,
    near_within,
    sample_words,
    sampled_log,
    sampled_sets,
    sampled_weight,
    weight_behind,
    weight_by_pairs,
)
from bitshades.shades import heavy
from bitshades.tables import Table
from helping import (
    HUGE,
    Promises,
    integer_faults,
    kinds,
    share_faults,
    table_faults,
    threshold_faults,
    width_faults,
    word_faults,
    word_pair_faults,
)
from plainly import hand_shades, odd_tables, ones_in, sign, some_tables, told

AND = Table(2, [0, 0, 0, 1])
THRESHOLDS = (
    (1, 4), (2, 8), (1, 1), (7, 7), (1, 16), (1, 15), (1, 17), (4, 64), (9, 64), (9, 63), (9, 65), (1, 64), (1, 1024),
    (HUGE, 4 * HUGE), (HUGE + 1, 4 * HUGE), (1, HUGE), (HUGE - 1, HUGE), (3, 8), (3, 4), (1, 2), (25, 64), (50, 128),
)


def hand_weight(table, count, start):
    """The weight of the start, by the squared shades behind it."""
    behind = [shade**2 for chosen, shade in enumerate(hand_shades(table)) if chosen % 2**count == start]
    return sum(behind, Fraction(0))


def hand_weight_by_pairs(table, count, start):
    """The weight of the start, by the words of point 30."""
    total = 0
    for u in range(len(table)):
        for a in range(2**count):
            b = a + u // 2**count * 2**count
            total += sign(table.bits[u] + table.bits[b] + ones_in(start & (u ^ b)))
    return Fraction(total, 2 ** (table.width + count))


def hand_log(width, weigh, least):
    """The log of the weights that `weigh` tells of a length and a start."""
    levels, starts = [], [0]
    for count in range(width + 1):
        weights = [weigh(count, start) for start in starts]
        levels.append([(start, told(weight), weight >= least) for start, weight in zip(starts, weights)])
        kept = [start for start, weight in zip(starts, weights) if weight >= least]
        starts = sorted(kept + [start + 2**count for start in kept])
    return levels


def hand_near_log(table, threshold):
    return hand_log(table.width, lambda count, start: hand_weight(table, count, start), Fraction(*threshold))


def joined(u, v, count):
    return v % 2**count + u // 2**count * 2**count


def hand_estimate(table, count, start, samples):
    total = 0
    for u, v in samples:
        b = joined(u, v, count)
        total += sign(table.bits[u] + table.bits[b] + ones_in(start & (u ^ b)))
    return Fraction(total, len(samples))


def hand_sampled_log(table, cut, samples):
    return hand_log(table.width, lambda count, start: hand_estimate(table, count, start, samples), Fraction(*cut))


def first_ones(words):
    return list(dict.fromkeys(words))


def hand_sample_words(width, samples):
    return first_ones(joined(u, v, count) for u, v in samples for count in range(width + 1))


def some_samples(width):
    """Rows of samples: one, some twice, many, 64, as lists and tuples."""
    last = 2**width - 1
    mixed = [((7 * index + 3) & last, (11 * index * index + index // 3) & last) for index in range(64)]
    return [
        [(0, 0)], [[last, 0]], [(0, last)], [(last // 3, last)] * 3 + [[0, last // 2]], mixed[:5], mixed[7:20],
        mixed, [mixed[3]] * 64, [[5 & last, 2 & last], (2 & last, 5 & last), [5 & last, 2 & last]],
    ]


class Weights(Promises):
    def test_all_starts(self):
        for table in some_tables():
            for count in range(table.width + 1):
                for start in range(2**count):
                    wanted = told(hand_weight(table, count, start))
                    self.same(weight_behind(table, count, start), wanted)
                    self.same(weight_by_pairs(table, count, start), wanted)

    def test_pairs_of_words(self):
        for table in some_tables(0, 3) + odd_tables(4)[-4:]:
            for count in range(table.width + 1):
                for start in range(2**count):
                    wanted = told(hand_weight_by_pairs(table, count, start))
                    self.same(weight_by_pairs(table, count, start), wanted)

    def test_children_add_up(self):
        for table in some_tables():
            self.same(weight_behind(table, 0, 0), (1, 1))
            for count in range(table.width):
                for start in range(2**count):
                    children = [weight_behind(table, count + 1, start + more) for more in (0, 2**count)]
                    total = told(sum(Fraction(*weight) for weight in children))
                    self.same(weight_behind(table, count, start), total)

    def test_told_values(self):
        self.same(weight_behind(AND, count=1, start=1), (1, 2))
        self.same(weight_by_pairs(AND, 2, 3), (1, 4))
        self.same(weight_behind(sum_table(3, 5), 2, 1), (1, 1))
        self.same(weight_by_pairs(sum_table(3, 5), 2, 2), (0, 1))

    def test_arguments(self):
        for width, count in ((0, 0), (3, 2), (6, 6), (6, 0)):
            good = {"table": drawn_table(width, 5), "count": count, "start": 2**count - 1}
            faults = {"table": table_faults(), "count": integer_faults(0, width), "start": word_faults(count)}
            for function in (weight_behind, weight_by_pairs):
                self.check_function(function, good, faults)

    def test_kept_bound(self):
        for threshold in THRESHOLDS:
            self.same(kept_bound(threshold), threshold[1] // threshold[0])
        self.same(kept_bound((2, 3)), 1)
        self.same(kept_bound((3, 10)), 3)
        self.same(kept_bound((1, HUGE)), HUGE)
        self.check_function(kept_bound, {"threshold": (2, 8)}, {"threshold": threshold_faults()})


class NearLogs(Promises):
    def test_values(self):
        for table in some_tables():
            squares = [shade**2 for shade in hand_shades(table)]
            for threshold in THRESHOLDS:
                log = hand_near_log(table, threshold)
                self.same(near_log(table, threshold), log)
                self.same(is_near_log(table, threshold, log), True)
                wanted = [chosen for chosen, square in enumerate(squares) if square >= Fraction(*threshold)]
                self.same(near_sets(table, threshold), wanted)
                self.same(heavy(table, threshold), wanted)
                for count, level in enumerate(log):
                    self.assertLessEqual(len([row for row in level if row[2]]), kept_bound(threshold), count)

    def test_told_logs(self):
        self.same(near_log(sum_table(2, 2), (1, 1)), [
            [(0, (1, 1), True)], [(0, (1, 1), True), (1, (0, 1), False)], [(0, (0, 1), False), (2, (1, 1), True)],
        ])
        self.same(near_log(AND, (3, 4)), [[(0, (1, 1), True)], [(0, (1, 2), False), (1, (1, 2), False)], []])
        self.same(near_log(Table(0, [1]), (1, 1)), [[(0, (1, 1), True)]])

    def test_just_met_and_just_missed(self):
        for threshold in ((1, 4), (2, 8), (HUGE, 4 * HUGE)):
            self.same(near_sets(AND, threshold), [0, 1, 2, 3])
        for threshold in ((HUGE + 1, 4 * HUGE), (26, 100)):
            self.same(near_sets(AND, threshold), [])
        self.same([row[2] for row in near_log(AND, (1, 2))[1]], [True, True])
        self.same([row[2] for row in near_log(AND, (HUGE + 1, 2 * HUGE))[1]], [False, False])
        self.same(near_log(AND, (51, 100))[2], [])

    def test_empty_levels(self):
        table = drawn_table(6, 5)
        log = near_log(table, (1, 1))
        self.same(log[2:], [[], [], [], [], []])
        self.same(len(log), 7)

    def test_judge(self):
        tables = some_tables(0, 1) + odd_tables(2)[2:9:3]
        cases = [(table, threshold) for table in tables for threshold in ((1, 4), (3, 8), (1, 1))]
        cases += [(odd_tables(3)[6], (9, 64)), (odd_tables(3)[7], (1, 64))]
        for table, threshold in cases:
            right = kinds(near_log(table, threshold))
            known = [table, threshold]
            self.check_judge(is_near_log, known, [near_log(table, threshold)], lambda log: kinds(log) == right)

    def test_judge_of_levels_and_weights(self):
        log = near_log(with_turned_bit(sum_table(4, 6), 3), (1, 64))
        table = with_turned_bit(sum_table(4, 6), 3)
        for index, level in enumerate(log):
            for other in (log[:index] + log[index + 1 :], log[:index] + [level] + log[index:], log[:index] + [[]]):
                self.same(is_near_log(table, (1, 64), other), other == log)
            for place, (start, weight, kept) in enumerate(level):
                rows = [(start, (2 * weight[0], 2 * weight[1]), kept), (start, weight, not kept), (start + 1, weight, kept)]
                rows += [(start, weight), (start, weight, kept, kept), [start, weight[0], weight[1], kept], table, None]
                for row in rows:
                    other = log[:index] + [level[:place] + [row] + level[place + 1 :]] + log[index + 1 :]
                    self.same(is_near_log(table, (1, 64), other), False)
                for changed in (level[:place] + level[place + 1 :], level + [level[place]]):
                    self.same(is_near_log(table, (1, 64), log[:index] + [changed] + log[index + 1 :]), False)
            if len(level) > 1:
                self.same(is_near_log(table, (1, 64), log[:index] + [level[::-1]] + log[index + 1 :]), False)

    def test_log_of_another_threshold(self):
        self.same(is_near_log(AND, (1, 4), near_log(AND, (26, 100))), False)
        self.same(is_near_log(AND, (2, 8), near_log(AND, (1, 4))), True)
        self.same(is_near_log(~AND, (2, 8), near_log(AND, (1, 4))), True)

    def test_arguments(self):
        for width in (0, 2, 6):
            good = {"table": drawn_table(width, 5), "threshold": (2, 8)}
            faults = {"table": table_faults(), "threshold": threshold_faults()}
            self.check_function(near_log, good, faults)
            self.check_function(near_sets, good, faults)
            log = near_log(*good.values())
            self.check_faults(is_near_log, {**good, "log": log}, {**faults, "log": []})
            self.same(is_near_log(log=log, threshold=(2, 8), table=drawn_table(width, 5)), True)


class Within(Promises):
    SHARES = (
        (0, 1), (0, 10000), (1, 4), (2, 8), (2499, 10000), (2501, 10000), (1, 8), (1, 16), (30, 160), (5, 16), (9, 32),
        (31, 64), (63, 128), (4999, 10000), (4998, 9999), (15, 32), (7, 16), (3, 8), (1, 32), (1, 64),
    )

    def test_values(self):
        for table in some_tables():
            squares = [abs(shade) for shade in hand_shades(table)]
            for share in self.SHARES:
                least = 1 - 2 * Fraction(*share)
                wanted = [chosen for chosen, shade in enumerate(hand_shades(table)) if shade >= least]
                self.same(near_within(table, share), wanted)
                self.same(near_within(table, share), sums_within(table, share))
                self.assertLessEqual(len(wanted), len([one for one in squares if one >= least]))

    def test_from_a_half_on(self):
        for share in ((1, 2), (5000, 10000), (5001, 10000), (1, 1), (10000, 10000), (2, 3)):
            self.refused(OutOfRange, "argument", "share", near_within, AND, share)
            self.refused(WrongKind, "argument", "table", near_within, None, share)
        self.same(near_within(AND, (4999, 10000)), [0, 1, 2])

    def test_arguments(self):
        for width in (0, 2, 6):
            faults = {"table": table_faults(), "share": share_faults() + [((1, 2), OutOfRange), ((4, 4), OutOfRange)]}
            self.check_function(near_within, {"table": drawn_table(width, 5), "share": (4, 16)}, faults)


class Samples(Promises):
    def test_sample_words(self):
        for width in range(7):
            for samples in some_samples(width):
                self.same(sample_words(width, samples), hand_sample_words(width, samples))
        self.same(sample_words(3, [(0, 7)]), [0, 1, 3, 7])
        self.same(sample_words(3, [(0, 7), [5, 5], (0, 7), (7, 0)]), [0, 1, 3, 7, 5, 6, 4])
        self.same(sample_words(0, [[0, 0], [0, 0]]), [0])

    def test_sampled_weight(self):
        for table in some_tables():
            for samples in some_samples(table.width):
                for count in {0, table.width // 2, table.width}:
                    words = first_ones(word for u, v in samples for word in (u, joined(u, v, count)))
                    for start in {0, 2**count // 3, 2**count - 1}:
                        asked = Asked(table, limit=len(words))
                        wanted = told(hand_estimate(table, count, start, samples))
                        self.same(sampled_weight(asked, count, start, samples), wanted)
                        self.same(asked.log(), words)

    def test_sampled_log(self):
        for table in some_tables():
            for samples in some_samples(table.width):
                words = hand_sample_words(table.width, samples)
                for cut in ((1, 1), (1, 4), (3, 8), (1, 64), (1, HUGE)):
                    log = hand_sampled_log(table, cut, samples)
                    asked = Asked(table, limit=len(words))
                    self.same(sampled_log(asked, cut, samples), log)
                    self.same(asked.log(), words)
                    asked = Asked(table, limit=len(words))
                    kept = [start for start, _, told_kept in log[-1] if told_kept]
                    self.same(sampled_sets(asked, cut, samples), kept)
                    self.same(asked.log(), words)

    def test_greatest_error(self):
        for table in some_tables():
            for samples in some_samples(table.width):
                for cut in ((1, 1), (1, 4), (1, HUGE)):
                    errors = []
                    for count, level in enumerate(hand_sampled_log(table, cut, samples)):
                        for start, estimate, _ in level:
                            errors.append(abs(Fraction(*estimate) - hand_weight(table, count, start)))
                    self.same(greatest_error(table, cut, samples), told(max(errors)))
                    self.check_kept(table, cut, samples, max(errors))

    def check_kept(self, table, cut, samples, error):
        kept = sampled_sets(Asked(table), cut, samples)
        for chosen, shade in enumerate(hand_shades(table)):
            if shade**2 >= Fraction(*cut) + error:
                self.assertIn(chosen, kept)
            if chosen in kept:
                self.assertGreaterEqual(shade**2, Fraction(*cut) - error)

    def test_estimates_below_0(self):
        self.same(sampled_weight(Asked(AND), 2, 0, [(0, 3)]), (-1, 1))
        self.same(sampled_weight(Asked(AND), 2, 3, [(1, 3), (1, 3), (0, 0)]), (1, 1))
        self.same(sampled_weight(Asked(AND), 2, 3, samples=[(1, 1), (0, 1)]), (0, 1))
        log = sampled_log(Asked(AND), (1, 4), [(0, 3)])
        self.same(log, [
            [(0, (1, 1), True)], [(0, (1, 1), True), (1, (-1, 1), False)], [(0, (-1, 1), False), (2, (1, 1), True)],
        ])

    def test_more_kept_than_the_bound(self):
        self.same(sampled_sets(Asked(AND), (1, 1), [(0, 0)]), [0, 1, 2, 3])
        self.same(kept_bound((1, 1)), 1)

    def test_all_pairs(self):
        for width in range(4):
            samples = [(u, v) for u in range(2**width) for v in range(2**width)]
            for table in some_tables(width, width):
                for count in range(width + 1):
                    for start in range(2**count):
                        wanted = weight_behind(table, count, start)
                        self.same(sampled_weight(Asked(table), count, start, samples), wanted)
                for cut in ((1, 4), (1, 1), (1, 64)):
                    self.same(sampled_log(Asked(table), cut, samples), near_log(table, cut))
                    self.same(sampled_sets(Asked(table), cut, samples), near_sets(table, cut))
                    self.same(greatest_error(table, cut, samples), (0, 1))


class Asking(Promises):
    def test_words_and_limits(self):
        samples = [[1, 6], (6, 1), [1, 6], (7, 7)]
        table = drawn_table(3, 12)
        words = hand_sample_words(3, samples)
        named = {"cut": (2, 8), "samples": samples}
        self.check_asking_of(sampled_log, table, named, words)
        self.check_asking_of(sampled_sets, table, named, words)
        named = {"count": 2, "start": 3, "samples": samples}
        self.check_asking_of(sampled_weight, table, named, [1, 2, 6, 5, 7])
        named = {"count": 0, "start": 0, "samples": samples}
        self.check_asking_of(sampled_weight, table, named, [1, 6, 7])

    def check_asking_of(self, function, table, named, words):
        """As `check_asking` tells; a cut is a tuple at each depth already."""
        self.check_asking(function, table, named, words)
        asked = Asked(table, limit=len(words) + 1)
        asked.ask(0)
        function(asked, **named)
        self.refused(Spent, "allowed", len(words) + 1, function, asked, **named)
        self.same(asked.log(), [0] + words)

    def test_spent_in_between(self):
        asked = Asked(AND, limit=2)
        self.refused(Spent, "allowed", 2, sampled_log, asked, (1, 2), [(0, 3), (1, 1)])
        self.same(asked.log(), [0, 1])
        self.refused(Spent, "allowed", 2, sampled_weight, asked, 1, 0, [(3, 3)])
        self.same(asked.log(), [0, 1])

    def test_arguments(self):
        for width, samples in ((0, [[0, 0]]), (2, [(3, 0), [1, 1]]), (6, [[63, 5]] * 3)):
            table = drawn_table(width, 3)
            row = word_pair_faults(width, samples, 1, 64)
            named, faults = {"cut": (2, 8), "samples": samples}, {"cut": threshold_faults(), "samples": row}
            self.check_refusing(sampled_log, table, named, faults)
            self.check_refusing(sampled_sets, table, named, faults)
            self.check_function(greatest_error, {"table": table, **named}, {"table": table_faults(), **faults})
            named = {"count": width, "start": 2**width - 1, "samples": samples}
            faults = {"count": integer_faults(0, width), "start": word_faults(width), "samples": row}
            self.check_refusing(sampled_weight, table, named, faults)
            good, faults = {"width": width, "samples": samples}, {"width": width_faults(), "samples": row}
            self.check_function(sample_words, good, faults)

    def test_start_of_the_length(self):
        for count in range(4):
            for start in (-1, 2**count, 7, 8):
                if start not in range(2**count):
                    for function, first in ((weight_behind, drawn_table(3, 1)), (weight_by_pairs, drawn_table(3, 1))):
                        self.refused(OutOfRange, "argument", "start", function, first, count, start)
                    asked = Asked(drawn_table(3, 1))
                    self.refused(OutOfRange, "argument", "start", sampled_weight, asked, count, start, [(0, 0)])
                    self.same(asked.asks, 0)

    def test_no_rows(self):
        for samples in (AND, {0: (0, 0)}, [AND], [{0: 0, 1: 0}]):
            self.refused(WrongKind, "argument", "samples", sample_words, 2, samples)
            self.refused(WrongKind, "argument", "samples", sampled_log, Asked(AND), (1, 2), samples)
        self.refused(WrongKind, "argument", "asked", sampled_log, AND, (1, 2), [(0, 0)])
        self.refused(WrongKind, "argument", "table", greatest_error, Asked(AND), (1, 2), [(0, 0)])


if __name__ == "__main__":
    unittest.main()
