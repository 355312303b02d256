"""Points 34 and 35 and the interface of noise.py."""

import unittest
from fractions import Fraction
from itertools import permutations

from bitshades.errors import OutOfRange, WrongKind, WrongSize
from bitshades.making import constant_table, drawn_table, place_table, sum_table
from bitshades.noise import (
    joined_noise,
    noise_shades,
    noise_spread,
    noise_step,
    noise_values,
    noise_values_by_shades,
    noise_weight,
    stability,
    stability_by_shades,
    turn_share,
)
from bitshades.tables import Table
from helping import (
    HUGE,
    NO_ROWS,
    Promises,
    fraction_faults,
    kind_faults,
    place_faults,
    share_faults,
    table_faults,
    width_faults,
    word_faults,
)
from plainly import hand_shades, odd_tables, ones_in, sign, some_tables, told

AND = Table(2, [0, 0, 0, 1])
SHARES = (
    (0, 1), (0, 10000), (1, 2), (5000, 10000), (1, 1), (10000, 10000), (1, 4), (2, 8), (1, 3), (3, 4), (1, 10000),
    (9999, 10000), (4999, 10000), (7, 9973),
)
FEW_SHARES = ((0, 1), (1, 2), (1, 1), (3, 12), (9999, 10000))


def hand_weight(width, word, share):
    share = Fraction(*share)
    return share ** ones_in(word) * (1 - share) ** (width - ones_in(word))


def hand_values(table, share):
    """The noise values, by the words of point 34."""
    weights = [hand_weight(table.width, word, share) for word in range(len(table))]
    return [
        sum(weight * sign(table.bits[word ^ other]) for other, weight in enumerate(weights))
        for word in range(len(table))
    ]


def hand_values_by_shades(table, share):
    faded = hand_noise_shades(table, share)
    return [
        sum(item * sign(ones_in(chosen & word)) for chosen, item in enumerate(faded)) for word in range(len(table))
    ]


def hand_noise_shades(table, share):
    keep = 1 - 2 * Fraction(*share)
    return [keep ** ones_in(chosen) * shade for chosen, shade in enumerate(hand_shades(table))]


def hand_step(values, place, share):
    share = Fraction(*share)
    values = [Fraction(*value) for value in values]
    return [(1 - share) * value + share * values[index ^ 2**place] for index, value in enumerate(values)]


def ratios(values):
    return [told(value) for value in values]


def some_values(width):
    """Rows of fractions: small ones, ones in higher terms, ones of many digits."""
    count = 2**width
    return [
        [(index - 3, index + 1) for index in range(count)], [(2 * index, 4) for index in range(count)],
        [(HUGE - index, HUGE + index % 3) for index in range(count)], [(-1, 1)] * count,
        [(sign(index), 1) for index in range(count)], [(0, HUGE)] * count,
    ]


class Weights(Promises):
    def test_values(self):
        for width in range(7):
            for share in SHARES:
                for word in range(2**width):
                    self.same(noise_weight(width, word, share), told(hand_weight(width, word, share)))

    def test_zeroth_powers(self):
        for width in range(7):
            self.same(noise_weight(width, 0, (0, 1)), (1, 1))
            self.same(noise_weight(width, 2**width - 1, (1, 1)), (1, 1))
            self.same(noise_weight(width=width, word=0, share=(1, 1)), (0, 1) if width else (1, 1))
        self.same(noise_weight(2, 1, (1, 3)), (2, 9))

    def test_arguments(self):
        for width in (0, 2, 6):
            good = {"width": width, "word": 2**width - 1, "share": (2, 8)}
            faults = {"width": width_faults(), "word": word_faults(width), "share": share_faults()}
            self.check_function(noise_weight, good, faults)


class Values(Promises):
    def test_values(self):
        for table in some_tables():
            for share in SHARES if table.width < 4 else FEW_SHARES:
                wanted = hand_values(table, share)
                self.same(noise_values(table, share), ratios(wanted))
                self.same(noise_values_by_shades(table, share), ratios(wanted))
                self.assertEqual(hand_values_by_shades(table, share), wanted)
                self.same(noise_shades(table, share), ratios(hand_noise_shades(table, share)))

    def test_noise_0_a_half_and_1(self):
        for table in some_tables():
            signs = [(item, 1) for item in table.signs()]
            for function in (noise_values, noise_values_by_shades):
                self.same(function(table, (0, 1)), signs)
                self.same(function(table, (0, 10000)), signs)
                self.same(function(table, (1, 2)), [told(hand_shades(table)[0])] * len(table))
                self.same(function(table, (2, 2)), signs[::-1])

    def test_told_values(self):
        for function in (noise_values, noise_values_by_shades):
            self.same(function(AND, share=(1, 4)), [(7, 8), (5, 8), (5, 8), (-1, 8)])
            self.same(function(Table(0, [1]), (1, 4)), [(-1, 1)])
        self.same(noise_shades(AND, (1, 4)), [(1, 2), (1, 4), (1, 4), (-1, 8)])
        self.same(noise_shades(AND, (1, 1)), [(1, 2), (-1, 2), (-1, 2), (-1, 2)])
        self.same(noise_shades(AND, (1, 2)), [(1, 2), (0, 1), (0, 1), (0, 1)])

    def test_arguments(self):
        functions = (noise_values, noise_values_by_shades, noise_shades, stability, stability_by_shades, turn_share)
        for width in (0, 2, 6):
            good = {"table": drawn_table(width, 5), "share": (2, 8)}
            for function in functions:
                self.check_function(function, good, {"table": table_faults(), "share": share_faults()})


class Steps(Promises):
    def test_step(self):
        for width in range(1, 7):
            for values in some_values(width):
                for share in FEW_SHARES + ((1, 3),):
                    for place in {0, width // 2, width - 1}:
                        wanted = ratios(hand_step(values, place, share))
                        self.same(noise_step(values, place, share), wanted)
                        self.same(noise_step(tuple(values), place, share), wanted)

    def test_spread(self):
        for width in range(7):
            for values in some_values(width):
                for share in FEW_SHARES:
                    wanted = ratios(Fraction(*value) for value in values)
                    for place in range(width):
                        wanted = ratios(hand_step(wanted, place, share))
                    self.same(noise_spread(values, share), wanted)

    def test_order_of_the_steps(self):
        values = some_values(3)[0]
        for order in permutations(range(3)):
            items = values
            for place in order:
                items = noise_step(items, place, (2, 7))
            self.same(items, noise_spread(values, (2, 7)))

    def test_signs_to_noise_values(self):
        for table in some_tables():
            signs = [(item, 1) for item in table.signs()]
            for share in FEW_SHARES:
                self.same(noise_spread(signs, share), noise_values(table, share))

    def test_one_noise_after_another(self):
        for table in odd_tables(3):
            first, second = (1, 5), (3, 7)
            both = noise_spread(noise_values(table, first), second)
            self.same(both, noise_values(table, joined_noise(first, second)))

    def test_width_0(self):
        for value, wanted in (((4, 6), (2, 3)), ((0, 5), (0, 1)), ((-HUGE, 2 * HUGE), (-1, 2)), ((HUGE, 1), (HUGE, 1))):
            self.same(noise_spread([value], (1, 3)), [wanted])
            self.same(noise_spread((value,), share=(0, 1)), [wanted])
            for place in (0, 1, -1, HUGE):
                self.refused(OutOfRange, "argument", "place", noise_step, [value], place, (1, 3))
            self.refused(WrongKind, "argument", "place", noise_step, [value], None, (1, 3))
            self.refused(OutOfRange, "argument", "place", noise_step, [value], 0, None)

    def test_noise_0_gives_ratios(self):
        self.same(noise_step([(2, 4), (3, 9)], 0, (0, 7)), [(1, 2), (1, 3)])
        self.same(noise_spread([(2, 4), (3, 9)], (0, 7)), [(1, 2), (1, 3)])
        self.same(noise_step([(2, 4), (3, 9)], 0, (7, 7)), [(1, 3), (1, 2)])
        self.same(noise_step([(1, 1), (0, 1)], place=0, share=(1, 3)), [(2, 3), (1, 3)])

    def values_faults(self):
        lengths = [length for length in range(70) if length not in (1, 2, 4, 8, 16, 32, 64)] + [128]
        faults = kind_faults(NO_ROWS)
        for item in ((1, 2), None):
            faults += [([item] * length, WrongSize) for length in lengths]
        for value, error in fraction_faults():
            faults += [([value, (1, 2)], error), (((1, 2), value), error), ([(1, 2)] * 7 + [value], error)]
        faults += [([(1, 0), None], OutOfRange), ([None, (1, 0)], WrongKind), ([(1,), (1, 0)], WrongSize)]
        return faults

    def test_arguments(self):
        for width in (1, 3, 6):
            good = {"values": some_values(width)[0], "place": width - 1, "share": (2, 8)}
            faults = {"values": self.values_faults(), "place": place_faults(width), "share": share_faults()}
            self.check_function(noise_step, good, faults)
        for width in (0, 2, 6):
            good = {"values": some_values(width)[1], "share": (2, 8)}
            self.check_function(noise_spread, good, {"values": self.values_faults(), "share": share_faults()})


class Stability(Promises):
    def test_values(self):
        for table in some_tables():
            for share in SHARES if table.width < 4 else FEW_SHARES:
                signs = table.signs()
                mean = sum(item * value for item, value in zip(signs, hand_values(table, share))) / len(table)
                self.same(stability(table, share), told(mean))
                self.same(stability_by_shades(table, share), told(mean))
                self.same(turn_share(table, share), told((1 - mean) / 2))

    def test_turn_share_by_words(self):
        for table in some_tables(0, 4):
            for share in FEW_SHARES:
                total = Fraction(0)
                for x in range(len(table)):
                    for y in range(len(table)):
                        if table.bits[x] != table.bits[x ^ y]:
                            total += hand_weight(table.width, y, share)
                self.same(turn_share(table, share), told(total / len(table)))

    def test_told_values(self):
        self.same(stability(AND, share=(1, 4)), (9, 16))
        self.same(stability_by_shades(AND, (1, 4)), (9, 16))
        self.same(turn_share(AND, (1, 4)), (7, 32))
        for share in SHARES:
            self.same(turn_share(place_table(3, 1), share), told(Fraction(*share)))
            self.same(stability(constant_table(2, 1), share), (1, 1))
        self.same(stability(sum_table(3, 7), (1, 1)), (-1, 1))


class Joined(Promises):
    def test_values(self):
        for first in SHARES:
            for second in SHARES:
                one, other = Fraction(*first), Fraction(*second)
                self.same(joined_noise(first, second), told(one + other - 2 * one * other))
        self.same(joined_noise(first=(1, 4), second=(1, 3)), (5, 12))

    def test_result_that_is_no_share(self):
        result = joined_noise((1, 10000), (1, 9999))
        self.same(result, told(Fraction(1, 10000) + Fraction(1, 9999) - Fraction(2, 99990000)))
        self.assertGreater(result[1], 10000)
        self.refused(OutOfRange, "argument", "first", joined_noise, result, (1, 2))
        self.refused(OutOfRange, "argument", "second", joined_noise, (1, 2), result)
        self.refused(OutOfRange, "argument", "share", noise_values, AND, result)

    def test_arguments(self):
        good = {"first": (2, 8), "second": (3, 9)}
        self.check_function(joined_noise, good, {"first": share_faults(), "second": share_faults()})


if __name__ == "__main__":
    unittest.main()
