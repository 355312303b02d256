"""Point 10 and the interface of ratios.py."""

import unittest
from fractions import Fraction

from bitshades.errors import OutOfRange, WrongKind, WrongSize
from bitshades.ratios import (
    compare_ratios,
    mean_of,
    ratio,
    ratio_difference,
    ratio_power,
    ratio_product,
    ratio_quotient,
    ratio_sum,
    sum_of,
    whole_part,
)
from helping import HUGE, Promises, fraction_faults, integer_faults, row_faults

FRACTIONS = [
    (0, 1), (0, 7), (1, 1), (-1, 1), (1, 2), (2, 4), (-2, 4), (3, 2), (-3, 2), (6, 4), (7, 3), (-7, 3),
    (10, 5), (-10, 5), (5, 1), (-5, 1), (HUGE, 3), (-HUGE, 6), (3, HUGE), (HUGE, HUGE), (10**50, 10**48 + 2),
]


def told(value):
    """The fraction of Python as a ratio."""
    return (value.numerator, value.denominator)


class Ratio(Promises):
    def test_example(self):
        self.same(ratio(6, -4), (-3, 2))

    def test_small(self):
        for top in range(-30, 31):
            for bottom in range(-30, 31):
                if bottom != 0:
                    self.same(ratio(top, bottom), told(Fraction(top, bottom)))

    def test_zero(self):
        for bottom in (1, -1, 5, -5, HUGE, -HUGE):
            self.same(ratio(0, bottom), (0, 1))

    def test_many_digits(self):
        self.same(ratio(6 * HUGE, -4 * HUGE), (-3, 2))
        self.same(ratio(HUGE, 1), (HUGE, 1))
        self.same(ratio(-1, -HUGE), (1, HUGE))

    def test_arguments(self):
        good = {"top": 6, "bottom": -4}
        faults = {"top": integer_faults(), "bottom": integer_faults() + [(0, OutOfRange)]}
        self.check_function(ratio, good, faults)

    def test_kind_of_top_before_range_of_bottom(self):
        self.refused(WrongKind, "argument", "top", ratio, True, 0)


class Arithmetic(Promises):
    def test_two_fractions(self):
        for first in FRACTIONS:
            for second in FRACTIONS:
                a, b = Fraction(*first), Fraction(*second)
                self.same(ratio_sum(first, second), told(a + b))
                self.same(ratio_difference(first, second), told(a - b))
                self.same(ratio_product(first, second), told(a * b))
                self.same(compare_ratios(first, second), (a > b) - (a < b))
                if b != 0:
                    self.same(ratio_quotient(first, second), told(a / b))

    def test_sign_of_a_quotient(self):
        self.same(ratio_quotient((1, 2), (-3, 4)), (-2, 3))
        self.same(ratio_quotient((-1, 2), (-3, 4)), (2, 3))
        self.same(ratio_quotient((0, 2), (-3, 4)), (0, 1))

    def test_arguments(self):
        good = {"first": (2, 4), "second": (-6, 9)}
        faults = {"first": fraction_faults(), "second": fraction_faults()}
        for function in (ratio_sum, ratio_difference, ratio_product, compare_ratios):
            self.check_function(function, good, faults)
        zeros = [((0, 1), OutOfRange), ((0, 5), OutOfRange), ((0, HUGE), OutOfRange)]
        self.check_function(ratio_quotient, good, {"first": fraction_faults(), "second": fraction_faults() + zeros})

    def test_equal_fractions_are_equal_ratios(self):
        self.same(ratio_sum((2, 4), (0, 9)), ratio_product((3, 6), (1, 1)))

    def test_returned_value_passed_again(self):
        value = (HUGE, 3)
        for _ in range(6):
            value = ratio_product(value, value)
        self.same(value, told(Fraction(HUGE, 3) ** 64))
        self.same(ratio_quotient(value, value), (1, 1))
        self.same(whole_part(value), value[0] // value[1])


class Power(Promises):
    def test_powers(self):
        for base in [(0, 3), (1, 1), (-1, 1), (2, 4), (-2, 4), (-3, 2), (6, 4)]:
            for exponent in range(65):
                self.same(ratio_power(base, exponent), told(Fraction(*base) ** exponent))

    def test_zeroth_power(self):
        for base in FRACTIONS:
            self.same(ratio_power(base, 0), (1, 1))

    def test_many_digits(self):
        self.same(ratio_power((HUGE, 1), 64), (HUGE**64, 1))
        self.same(ratio_power((-2, 2 * HUGE), 3), (-1, HUGE**3))

    def test_arguments(self):
        good = {"base": (2, 6), "exponent": 3}
        self.check_function(ratio_power, good, {"base": fraction_faults(), "exponent": integer_faults(0, 64)})


class Rows(Promises):
    def test_sum_and_mean(self):
        for count in range(len(FRACTIONS) + 1):
            row = FRACTIONS[:count]
            total = sum([Fraction(*item) for item in row], Fraction(0))
            self.same(sum_of(row), told(total))
            self.same(sum_of(tuple(row)), told(total))
            if row:
                self.same(mean_of(row), told(total / count))
                self.same(mean_of(tuple(row)), told(total / count))

    def test_sum_of_none(self):
        self.same(sum_of([]), (0, 1))
        self.same(sum_of(()), (0, 1))

    def test_mean_of_none(self):
        self.refused(WrongSize, "argument", "fractions", mean_of, [])
        self.refused(WrongSize, "argument", "fractions", mean_of, ())

    def test_sixty_four(self):
        row = [(1, k) for k in range(1, 65)]
        total = sum([Fraction(1, k) for k in range(1, 65)])
        self.same(sum_of(row), told(total))
        self.same(mean_of(row), told(total / 64))
        self.same(mean_of([(3, 6)] * 64), (1, 2))

    def test_arguments(self):
        row = [(1, 2), (2, 4), (-3, 1)]
        for function, least in ((sum_of, 0), (mean_of, 1)):
            faults = {"fractions": row_faults(row, least, 64, fraction_faults())}
            self.check_function(function, {"fractions": row}, faults)


class WholePart(Promises):
    def test_values(self):
        self.same(whole_part((-1, 2)), -1)
        for top in range(-20, 21):
            for bottom in range(1, 9):
                self.same(whole_part((top, bottom)), Fraction(top, bottom).__floor__())
        self.same(whole_part((HUGE * 3 + 2, 3)), HUGE)
        self.same(whole_part((-HUGE * 3 - 2, 3)), -HUGE - 1)

    def test_arguments(self):
        self.check_function(whole_part, {"fraction": (7, 2)}, {"fraction": fraction_faults()})


if __name__ == "__main__":
    unittest.main()
