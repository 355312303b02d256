"""Points 21 and 22 and the interface of shades.py."""

import unittest
from fractions import Fraction
from itertools import product

from bitshades.errors import NotATable, OutOfRange, WrongKind, WrongSize
from bitshades.making import constant_table, drawn_table, place_table, product_table, sum_table
from bitshades.shades import (
    field_back,
    field_width,
    heavy,
    is_scores,
    level_weights,
    low_scores,
    plain_scores,
    quick_field,
    quick_step,
    score,
    scores,
    shade,
    shades,
    table_of_scores,
    weight_of,
)
from bitshades.tables import Table
from helping import (
    HUGE,
    Promises,
    field_faults,
    place_faults,
    row_faults,
    table_faults,
    threshold_faults,
    word_faults,
)


def some_tables():
    """All tables up to width 2, and constant, single-bit and mixed ones of the other widths."""
    for width in range(3):
        for bits in product((0, 1), repeat=2**width):
            yield Table(width, bits)
    for width in range(3, 7):
        yield constant_table(width, 0)
        yield constant_table(width, 1)
        yield product_table(width, 2**width - 1)
        yield sum_table(width, 2**width - 2)
        yield ~place_table(width, width - 1)
        for seed in range(3):
            yield drawn_table(width, 1231 * seed + 5)


def hand_score(table, chosen):
    """The score, taken from the bits alone."""
    total = 0
    for word, bit in enumerate(table.bits):
        total += 1 if (bit + format(word & chosen, "b").count("1")) % 2 == 0 else -1
    return total


def hand_scores(table):
    return [hand_score(table, chosen) for chosen in range(2**table.width)]


def hand_quick_field(field):
    """The quick field as sums with signs, not by steps."""
    result = []
    for chosen in range(len(field)):
        signs = [(-1) ** format(word & chosen, "b").count("1") for word in range(len(field))]
        result.append(sum(sign * item for sign, item in zip(signs, field)))
    return result


def told(value):
    value = Fraction(value)
    return (value.numerator, value.denominator)


def some_field(width, seed=0):
    """A field of unlike integers, some negative, some of many digits."""
    items = [(17 * word * word + 31 * word + 5 * seed) % 101 - 50 for word in range(2**width)]
    items[-1] = HUGE + seed
    items[0] = items[0] - 10**500 if seed else items[0]
    return items


class Scores(Promises):
    def test_example(self):
        self.same(scores(Table(2, [0, 0, 0, 1])), [2, 2, 2, -2])

    def test_values(self):
        for table in some_tables():
            wanted = hand_scores(table)
            self.same(scores(table), wanted)
            self.same(plain_scores(table), wanted)
            self.same([score(table, chosen) for chosen in range(2**table.width)], wanted)
            self.same(shades(table), [told(Fraction(item, 2**table.width)) for item in wanted])
            self.same([shade(table, chosen) for chosen in range(2**table.width)], shades(table))
            self.same(low_scores(table), [wanted[0]] + [wanted[2**place] for place in range(table.width)])

    def test_width_0(self):
        self.same(scores(Table(0, [0])), [1])
        self.same(scores(Table(0, [1])), [-1])
        self.same(shades(Table(0, [1])), [(-1, 1)])
        self.same(low_scores(Table(0, [1])), [-1])

    def test_squares_of_shades_add_up_to_1(self):
        for table in some_tables():
            self.assertEqual(sum(Fraction(*item) ** 2 for item in shades(table)), 1)

    def test_arguments(self):
        for width in (0, 2, 5):
            table = drawn_table(width, 9)
            faults = {"table": table_faults(), "chosen": word_faults(width)}
            for function in (score, shade):
                self.check_function(function, {"table": table, "chosen": 2**width - 1}, faults)
            for function in (scores, plain_scores, shades, low_scores, level_weights):
                self.check_function(function, {"table": table}, {"table": table_faults()})


class Fields(Promises):
    def test_width(self):
        for width in range(7):
            self.same(field_width([0] * 2**width), width)
            self.same(field_width(tuple(some_field(width))), width)

    def test_step(self):
        for width in range(1, 7):
            for seed in range(3):
                field = some_field(width, seed)
                for place in range(width):
                    wanted = []
                    for index in range(2**width):
                        if index // 2**place % 2 == 0:
                            wanted.append(field[index] + field[index + 2**place])
                        else:
                            wanted.append(field[index - 2**place] - field[index])
                    self.same(quick_step(field, place), wanted)
                    self.same(quick_step(tuple(field), place), wanted)

    def test_quick_field(self):
        for width in range(7):
            for seed in range(3):
                field = some_field(width, seed)
                wanted = hand_quick_field(field)
                self.same(quick_field(field), wanted)
                self.same(quick_field(tuple(field)), wanted)
                self.same(quick_field(wanted), [item * 2**width for item in field])
                self.same(field_back(field), [told(Fraction(item, 2**width)) for item in wanted])
        self.same(quick_field([HUGE]), [HUGE])
        self.same(field_back([-HUGE]), [(-HUGE, 1)])
        self.same(field_back([0, 0]), [(0, 1), (0, 1)])

    def test_quick_field_is_the_steps(self):
        field = some_field(4, 1)
        for place in (2, 0, 3, 1):
            field = quick_step(field, place)
        self.same(field, quick_field(some_field(4, 1)))

    def test_quick_field_of_signs(self):
        for table in some_tables():
            self.same(quick_field(table.signs()), scores(table))
            self.same(field_back(scores(table)), [(sign, 1) for sign in table.signs()])

    def test_returned_fields_passed_again(self):
        field = some_field(3, 2)
        for _ in range(300):
            field = quick_field(field)
        self.same(field, [item * 8**150 for item in some_field(3, 2)])

    def test_arguments(self):
        for function in (field_width, quick_field, field_back, is_scores):
            for field in ([5], [1, -2], [1, 2, 3, 4], some_field(6)):
                self.check_function(function, {"field": field}, {"field": field_faults()})
        for width in (1, 3, 6):
            good = {"field": some_field(width), "place": width - 1}
            self.check_function(quick_step, good, {"field": field_faults(), "place": place_faults(width)})

    def test_step_at_width_0(self):
        for place in (0, 1, -1):
            self.refused(OutOfRange, "argument", "place", quick_step, [5], place)
        self.refused(WrongKind, "argument", "place", quick_step, [5], None)

    def test_length_ahead_of_items(self):
        self.refused(WrongSize, "argument", "field", quick_field, [None] * 3)
        self.refused(WrongSize, "argument", "field", quick_field, [None] * 128)
        self.refused(WrongSize, "argument", "field", quick_field, [])


class BackFromScores(Promises):
    def test_scores_of_tables(self):
        for table in some_tables():
            self.same(is_scores(scores(table)), True)
            self.same(is_scores(tuple(scores(table))), True)
            self.same(table_of_scores(scores(table)), table)
            self.same(table_of_scores(tuple(hand_scores(table))), table)

    def test_all_small_fields(self):
        for length, reach in ((1, 3), (2, 3), (4, 4)):
            width = length.bit_length() - 1
            known = {}
            for bits in product((0, 1), repeat=length):
                known[tuple(hand_scores(Table(width, bits)))] = Table(width, bits)
            for field in product(range(-reach, reach + 1), repeat=length):
                self.same(is_scores(field), field in known)
                if field in known:
                    self.same(table_of_scores(list(field)), known[field])
                else:
                    with self.assertRaises(NotATable):
                        table_of_scores(list(field))

    def test_fields_of_no_table(self):
        for field in ([0], [HUGE], [2, 2], [0, 0, 0, 0], [4, 4, 4, 4], [2, 2, 2, 2], [HUGE, -HUGE], [1] * 64, [64] * 64):
            self.same(is_scores(field), False)
            with self.assertRaises(NotATable) as caught:
                table_of_scores(field)
            self.assertIs(type(caught.exception), NotATable)
        for width in range(3, 7):
            field = scores(drawn_table(width, 3))
            for index in range(2**width):
                for change in (1, -1, 2, -2, HUGE):
                    other = field[:index] + [field[index] + change] + field[index + 1 :]
                    self.same(is_scores(other), False)
                    with self.assertRaises(NotATable):
                        table_of_scores(other)

    def test_arguments(self):
        for field in ([1], [-2, 0], [2, 2, 2, -2], scores(drawn_table(6, 8))):
            self.check_function(table_of_scores, {"field": field}, {"field": field_faults()})


class Weights(Promises):
    def test_weight_of(self):
        for table in some_tables():
            squares = [Fraction(item, 2**table.width) ** 2 for item in hand_scores(table)]
            most = 2**table.width - 1
            for row in ([], [0], [most], [0, 0], [most, 0, most, most], list(range(most + 1)), [0] * 64):
                wanted = told(sum([squares[chosen] for chosen in row], Fraction(0)))
                self.same(weight_of(table, row), wanted)
                self.same(weight_of(table, tuple(row)), wanted)

    def test_a_set_that_stands_several_times(self):
        table = Table(2, [0, 0, 0, 1])
        self.same(weight_of(table, [1]), (1, 4))
        self.same(weight_of(table, [1, 1]), (1, 2))
        self.same(weight_of(table, [1] * 64), (16, 1))
        self.same(weight_of(table, [0, 1, 2, 3]), (1, 1))
        self.same(weight_of(table, []), (0, 1))

    def test_weight_of_arguments(self):
        for width, row in ((0, [0, 0]), (3, [7, 0, 7]), (6, [63, 1])):
            good = {"table": drawn_table(width, 4), "sets": row}
            faults = {"table": table_faults(), "sets": row_faults(row, 0, 64, word_faults(width))}
            self.check_function(weight_of, good, faults)

    def test_level_weights(self):
        for table in some_tables():
            squares = [Fraction(item, 2**table.width) ** 2 for item in hand_scores(table)]
            wanted = []
            for size in range(table.width + 1):
                of_size = [chosen for chosen in range(len(squares)) if format(chosen, "b").count("1") == size]
                wanted.append(told(sum(squares[chosen] for chosen in of_size)))
            self.same(level_weights(table), wanted)


class Heavy(Promises):
    THRESHOLDS = (
        (1, 4), (2, 8), (1, 1), (7, 7), (1, 16), (1, 15), (1, 17), (1, 64), (3, 12), (9, 64), (9, 63), (1, HUGE),
        (HUGE - 1, HUGE), (HUGE, 4 * HUGE), (HUGE + 1, 4 * HUGE), (1, 1024), (1, 1023), (1, 4096),
    )

    def test_values(self):
        for table in some_tables():
            squares = [Fraction(item, 2**table.width) ** 2 for item in hand_scores(table)]
            for threshold in self.THRESHOLDS:
                wanted = [chosen for chosen, square in enumerate(squares) if square >= Fraction(*threshold)]
                self.same(heavy(table, threshold), wanted)
                self.same(heavy(table, threshold=threshold), wanted)
            self.same(heavy(table), heavy(table, (1, 4)))

    def test_equal_is_enough(self):
        table = Table(2, [0, 0, 0, 1])
        self.same(heavy(table), [0, 1, 2, 3])
        self.same(heavy(table, (25, 100)), [0, 1, 2, 3])
        self.same(heavy(table, (26, 100)), [])
        self.same(heavy(constant_table(3, 1), (1, 1)), [0])

    def test_arguments(self):
        good = {"table": Table(2, [0, 0, 0, 1]), "threshold": (2, 8)}
        self.check_function(heavy, good, {"table": table_faults(), "threshold": threshold_faults()})


if __name__ == "__main__":
    unittest.main()
