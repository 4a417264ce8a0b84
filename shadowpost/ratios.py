"""Fractions: tuples (top, bottom) of whole numbers, bottom from 1 on, in lowest terms."""

from shadowpost.errors import NoNumber


def greatest_divisor(one, other):
    while other != 0:
        rest = one % other
        one = other
        other = rest
    return abs(one)


def ratio(top, bottom):
    if bottom == 0:
        raise NoNumber()
    divisor = greatest_divisor(top, bottom)
    # A divisor with the bottom's sign leaves the bottom above 0.
    if bottom < 0:
        divisor = -divisor
    return (top // divisor, bottom // divisor)


def plus(one, other):
    return ratio(one[0] * other[1] + other[0] * one[1], one[1] * other[1])


def times(one, other):
    return ratio(one[0] * other[0], one[1] * other[1])
