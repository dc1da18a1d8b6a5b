"""Fractions: pairs (top, bottom) of integers, bottom from 1 on."""

from math import gcd


def lowest(top, bottom):
    """The fraction in lowest terms."""
    common = gcd(top, bottom)
    return (top // common, bottom // common)


def difference(one, other):
    """How much the one fraction is more than the other, perhaps not in lowest terms."""
    return (one[0] * other[1] - other[0] * one[1], one[1] * other[1])


def total(one, other):
    """The sum of two fractions, in lowest terms."""
    return lowest(one[0] * other[1] + other[0] * one[1], one[1] * other[1])


def is_less(one, other):
    return one[0] * other[1] < other[0] * one[1]
