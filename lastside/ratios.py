"""Ratios: tuples (number, parts) of integers in lowest terms, with parts above 0."""

from math import gcd


def lowest(number, parts):
    """The ratio in lowest terms."""
    divisor = gcd(number, parts)
    return (number // divisor, parts // divisor)


def ratio_sum(first, second):
    """The sum of two ratios."""
    return lowest(first[0] * second[1] + second[0] * first[1], first[1] * second[1])


def ratio_product(first, second):
    """The product of two ratios."""
    return lowest(first[0] * second[0], first[1] * second[1])


def at_least(first, second):
    """True if the first ratio is not below the second one."""
    return first[0] * second[1] >= second[0] * first[1]
