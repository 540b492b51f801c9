"""Fractions: pairs (top, bottom) of integers, bottom above 0, without a common divisor."""

from math import gcd

from tracebounds.basics import is_integer


def ratio(top, bottom):
    """Return the fraction that stands for top / bottom, bottom being above 0."""
    divisor = gcd(top, bottom)
    return (top // divisor, bottom // divisor)


def is_ratio(value):
    """Tell whether this is a fraction from 0 on."""
    if not isinstance(value, tuple) or len(value) != 2 or not all([is_integer(part) for part in value]):
        return False
    top, bottom = value
    return top >= 0 and bottom > 0 and gcd(top, bottom) == 1


def is_less(one, other):
    """Tell whether the first fraction is below the second one."""
    return one[0] * other[1] < other[0] * one[1]


def plus(one, other):
    """Return the sum of these fractions."""
    return ratio(one[0] * other[1] + other[0] * one[1], one[1] * other[1])


def minus(one, other):
    """Return the first fraction less the second one."""
    return ratio(one[0] * other[1] - other[0] * one[1], one[1] * other[1])


def times(one, other):
    """Return the product of these fractions."""
    return ratio(one[0] * other[0], one[1] * other[1])


def span_of(found):
    """Return the pair of the least and the greatest one of some fractions."""
    least = most = found[0]
    for one in found:
        if is_less(one, least):
            least = one
        if is_less(most, one):
            most = one
    return (least, most)
