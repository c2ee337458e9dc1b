"""Fractions: pairs (top, bottom) of integers in lowest terms, top from 0 on, bottom from 1 on."""

from math import gcd

NOTHING = (0, 1)
WHOLE = (1, 1)


def lowest(top, bottom):
    """The fraction of a top and a bottom."""
    shared = gcd(top, bottom)
    return (top // shared, bottom // shared)


def is_lowest(top, bottom):
    """Whether a top and a bottom are in lowest terms."""
    return gcd(top, bottom) == 1


def plus(one, other):
    """The sum of two fractions."""
    return lowest(one[0] * other[1] + other[0] * one[1], one[1] * other[1])


def times(one, other):
    """The product of two fractions."""
    return lowest(one[0] * other[0], one[1] * other[1])


def over(one, other):
    """The one fraction, divided by the other one, which is above 0."""
    return lowest(one[0] * other[1], one[1] * other[0])


def sum_of(fractions):
    """The sum of some fractions."""
    found = NOTHING
    for fraction in fractions:
        found = plus(found, fraction)
    return found
