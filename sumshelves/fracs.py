"""Fractions, told as (top, low) in lowest terms, of any size."""

from math import gcd, lcm

NOUGHT = (0, 1)
ONE = (1, 1)
MINUS_ONE = (-1, 1)


def reduced(top, low):
    """The fraction of top by low, in lowest terms; low is not 0."""
    by = gcd(top, low)
    if low < 0:
        by = -by
    return top // by, low // by


def plus(one, other):
    """The sum of both."""
    return reduced(one[0] * other[1] + other[0] * one[1], one[1] * other[1])


def minus(one, other):
    """What is left of one if other is taken away."""
    return reduced(one[0] * other[1] - other[0] * one[1], one[1] * other[1])


def multiplied(one, other):
    """One times other."""
    return reduced(one[0] * other[0], one[1] * other[1])


def divided(one, other):
    """One by other, which is not 0."""
    return reduced(one[0] * other[1], one[1] * other[0])


def is_less(one, other):
    """Whether one is less than other."""
    return one[0] * other[1] < other[0] * one[1]


def common(fractions):
    """(tops, low): all of these fractions over one low."""
    low = 1
    for part in fractions:
        low = lcm(low, part[1])
    return [part[0] * (low // part[1]) for part in fractions], low


def total(fractions):
    """The sum of all of these."""
    tops, low = common(fractions)
    return reduced(sum(tops), low)


def sum_product(fractions, others):
    """The sum of each of these fractions times the other one at its place."""
    tops, low = common(fractions)
    also, unit = common(others)
    return reduced(sum([one * other for one, other in zip(tops, also)]), low * unit)


def whole(number):
    """An integer as a fraction."""
    return number, 1


def scaled(fractions, by):
    """The tuple of all of these times one fraction."""
    return tuple([multiplied(part, by) for part in fractions])
