"""Fractions: pairs (above, below) in least terms, below being above 0 [A3]."""

from math import gcd


def fraction_of(above, below):
    """Return above by below as a fraction, below being an integer above 0."""
    common = gcd(above, below)
    return (above // common, below // common)


def scaled(fraction, factor, divisor):
    """Return fraction times factor, by divisor, which is above 0."""
    return fraction_of(fraction[0] * factor, fraction[1] * divisor)


def sum_of(fractions):
    """Return the sum of fractions."""
    total_above, total_below = 0, 1
    for above, below in fractions:
        total_above, total_below = fraction_of(
            total_above * below + above * total_below, total_below * below
        )
    return (total_above, total_below)


def is_below(first, second):
    """Tell whether the fraction first is below the fraction second."""
    return first[0] * second[1] < second[0] * first[1]
