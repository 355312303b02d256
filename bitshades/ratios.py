"""Exact fractions in lowest terms (point 10)."""

from math import gcd

from bitshades.checks import check_fraction, check_fractions, check_integer, check_range
from bitshades.errors import OutOfRange

MOST_EXPONENT = 64


def ratio(top, bottom):
    """The ratio top / bottom."""
    check_integer(top, "top")
    check_integer(bottom, "bottom")
    if bottom == 0:
        raise OutOfRange("bottom")
    divisor = gcd(top, bottom)
    if bottom < 0:
        divisor = -divisor
    return (top // divisor, bottom // divisor)


def check_pair(first, second):
    """Refuse what are no two fractions."""
    check_fraction(first, "first")
    check_fraction(second, "second")


def ratio_sum(first, second):
    """The ratio first + second."""
    check_pair(first, second)
    return ratio(first[0] * second[1] + second[0] * first[1], first[1] * second[1])


def ratio_difference(first, second):
    """The ratio first - second."""
    check_pair(first, second)
    return ratio(first[0] * second[1] - second[0] * first[1], first[1] * second[1])


def ratio_product(first, second):
    """The ratio first * second."""
    check_pair(first, second)
    return ratio(first[0] * second[0], first[1] * second[1])


def ratio_quotient(first, second):
    """The ratio first / second."""
    check_pair(first, second)
    if second[0] == 0:
        raise OutOfRange("second")
    return ratio(first[0] * second[1], first[1] * second[0])


def ratio_power(base, exponent):
    """The ratio that is the power of the base."""
    check_fraction(base, "base")
    check_range(exponent, 0, MOST_EXPONENT, "exponent")
    top = 1
    bottom = 1
    for _ in range(exponent):
        top = top * base[0]
        bottom = bottom * base[1]
    return ratio(top, bottom)


def compare_ratios(first, second):
    """-1, 0 or 1, as first is less than, equal to or greater than second."""
    check_pair(first, second)
    left = first[0] * second[1]
    right = second[0] * first[1]
    if left < right:
        return -1
    if left > right:
        return 1
    return 0


def total_of(fractions):
    """The sum of fractions that have been checked."""
    total = (0, 1)
    for fraction in fractions:
        total = ratio_sum(total, fraction)
    return total


def sum_of(fractions):
    """The sum of 0 to 64 fractions, a ratio."""
    check_fractions(fractions, 0, "fractions")
    return total_of(fractions)


def mean_of(fractions):
    """The mean of 1 to 64 fractions, a ratio."""
    check_fractions(fractions, 1, "fractions")
    top, bottom = total_of(fractions)
    return ratio(top, bottom * len(fractions))


def whole_part(fraction):
    """The greatest integer that is not greater than the fraction."""
    check_fraction(fraction, "fraction")
    return fraction[0] // fraction[1]
