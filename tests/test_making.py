"""Points 19 and 43 and the interface of making.py."""

import unittest

from bitshades.errors import OutOfRange, WrongKind
from bitshades.making import (
    constant_table,
    drawn_table,
    early_table,
    most_table,
    place_table,
    product_table,
    size_table,
    sum_table,
    table_of_words,
    weighted_table,
)
from bitshades.tables import Table
from helping import HUGE, Promises, integer_faults, place_faults, row_faults, width_faults, word_faults


def ones(word):
    """How many places of the word have bit 1."""
    return bin(word).count("1")


def made(width, rule):
    """The table whose bit at each word the rule gives."""
    return Table(width, [int(rule(word)) for word in range(2**width)])


class Constant(Promises):
    def test_values(self):
        for width in range(7):
            for bit in (0, 1):
                self.same(constant_table(width, bit), Table(width, [bit] * 2**width))

    def test_arguments(self):
        faults = {"width": width_faults(), "bit": integer_faults(0, 1)}
        self.check_function(constant_table, {"width": 3, "bit": 1}, faults)


class OfSets(Promises):
    def test_sum_table(self):
        for width in range(7):
            for chosen in range(2**width):
                self.same(sum_table(width, chosen), made(width, lambda word: ones(word & chosen) % 2))

    def test_product_table(self):
        for width in range(7):
            for chosen in range(2**width):
                self.same(product_table(width, chosen), made(width, lambda word: word & chosen == chosen))

    def test_edges(self):
        self.same(sum_table(0, 0), Table(0, [0]))
        self.same(product_table(0, 0), Table(0, [1]))
        self.same(product_table(3, 0), Table(3, [1] * 8))
        self.same(sum_table(3, 0), Table(3, [0] * 8))
        self.same(product_table(3, 7), Table(3, [0] * 7 + [1]))

    def test_arguments(self):
        for width in (0, 3, 6):
            faults = {"width": width_faults(), "chosen": word_faults(width)}
            for function in (sum_table, product_table):
                self.check_function(function, {"width": width, "chosen": 2**width - 1}, faults)


class Place(Promises):
    def test_values(self):
        for width in range(1, 7):
            for place in range(width):
                for bit in (0, 1):
                    wanted = made(width, lambda word: (word // 2**place + bit) % 2)
                    self.same(place_table(width, place, bit), wanted)
                self.same(place_table(width, place), made(width, lambda word: word // 2**place % 2))

    def test_arguments(self):
        for width in (1, 3, 6):
            faults = {"width": width_faults(), "place": place_faults(width), "bit": integer_faults(0, 1)}
            self.check_function(place_table, {"width": width, "place": width - 1, "bit": 1}, faults)

    def test_width_0(self):
        for place in (0, 1, -1, HUGE):
            self.refused(OutOfRange, "argument", "place", place_table, 0, place)
            self.refused(OutOfRange, "argument", "place", place_table, 0, place, 5)
        self.refused(WrongKind, "argument", "place", place_table, 0, None)


class Sizes(Promises):
    def test_most_table(self):
        for width in range(7):
            self.same(most_table(width), made(width, lambda word: 2 * ones(word) > width))
        self.same(most_table(0), Table(0, [0]))
        self.same(most_table(2), Table(2, [0, 0, 0, 1]))
        self.same(str(most_table(3)), "3:00010111")
        self.check_function(most_table, {"width": 4}, {"width": width_faults()})

    def test_size_table(self):
        rows = ([0], [1], [0, 1], [1, 0], [1, 0, 1], [0, 0, 1, 1], [1, 0, 0, 1, 0], [0, 1, 0, 1, 1, 0], [1, 0, 1, 1, 0, 0, 1])
        for bits in rows:
            width = len(bits) - 1
            self.same(size_table(bits), made(width, lambda word: bits[ones(word)]))
            self.same(size_table(tuple(bits)), size_table(bits))
            faults = {"bits": row_faults(bits, 1, 7, integer_faults(0, 1))}
            self.check_function(size_table, {"bits": bits}, faults)


class Weighted(Promises):
    ROWS = (
        ([], 0), ([], -1), ([], 1), ([3], 2), ([3], 3), ([-3], -4), ([-3], -3), ([1, 1, 1], 1), ([1, -2, 4], 0),
        ([5, 5, -5, 2], 4), ([HUGE, -HUGE], 0), ([HUGE, -HUGE, 1], HUGE), ([HUGE, 1], HUGE), ([1, 2, 4, 8, 16, 32], 30),
        ([0, 0, 0, 0, 0, 0], -1), ([-1, -2, -3, -4, -5, -6], -8),
    )

    def test_values(self):
        for weights, bound in self.ROWS:
            def rule(word):
                return sum(weight for place, weight in enumerate(weights) if word >> place & 1) > bound

            self.same(weighted_table(weights, bound), made(len(weights), rule))
            self.same(weighted_table(tuple(weights), bound), made(len(weights), rule))

    def test_arguments(self):
        for weights, bound in self.ROWS:
            faults = {"weights": row_faults(weights, 0, 6, integer_faults()), "bound": integer_faults()}
            self.check_function(weighted_table, {"weights": weights, "bound": bound}, faults)


class OfWords(Promises):
    def test_values(self):
        rows = (
            (0, []), (0, [0]), (0, [0] * 64), (1, [1, 1]), (3, []), (3, [7, 0, 7]), (4, [3, 9, 12]), (6, list(range(64))),
            (6, [63]), (6, list(range(0, 64, 2)) * 2),
        )
        for width, words in rows:
            self.same(table_of_words(width, words), made(width, lambda word: word in words))
            self.same(table_of_words(width, tuple(words)), table_of_words(width, words))

    def test_arguments(self):
        for width, words in ((0, [0, 0]), (3, [7, 1, 7]), (6, [63, 0])):
            faults = {"width": width_faults(), "words": row_faults(words, 0, 64, word_faults(width))}
            self.check_function(table_of_words, {"width": width, "words": words}, faults)


class Early(Promises):
    def test_values(self):
        for width in range(7):
            for count in range(2**width + 1):
                self.same(early_table(width, count), Table(width, [1] * count + [0] * (2**width - count)))

    def test_arguments(self):
        for width in (0, 3, 6):
            faults = {"width": width_faults(), "count": integer_faults(0, 2**width)}
            self.check_function(early_table, {"width": width, "count": 2**width}, faults)


class Drawn(Promises):
    def test_example(self):
        self.same(str(drawn_table(2)), "2:1000")

    def test_values(self):
        for width in range(7):
            for seed in (0, 1, 2, 7, 100, 4092, 4093, 99999, 999999, 1000000):
                state, bits = seed, []
                while len(bits) < 2**width:
                    state = (state * 389 + 271) % 4093
                    bits.append(state // 8 % 2)
                self.same(drawn_table(width, seed), Table(width, bits))
            self.same(drawn_table(width), drawn_table(width, 0))

    def test_known_tables(self):
        self.same(str(drawn_table(3, 1)), "3:" + self.known(3, 1))
        self.same(str(drawn_table(3, seed=1000000)), "3:" + self.known(3, 1000000))

    def known(self, width, seed):
        digits = ""
        for _ in range(2**width):
            seed = divmod(389 * seed + 271, 4093)[1]
            digits += str((seed >> 3) & 1)
        return digits

    def test_arguments(self):
        faults = {"width": width_faults(), "seed": integer_faults(0, 1000000)}
        self.check_function(drawn_table, {"width": 3, "seed": 5}, faults)
        self.check_function(drawn_table, {"width": 0, "seed": 1000000}, faults)


if __name__ == "__main__":
    unittest.main()
