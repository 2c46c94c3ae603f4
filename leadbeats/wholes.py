"""Whole numbers, and fractions of them."""


def is_whole(thing):
    """Tell of anything whether it is a whole number; True and False are none."""
    return isinstance(thing, int) and not isinstance(thing, bool)


def is_from(thing, least):
    """Tell of anything whether it is a whole number from the least one on."""
    return is_whole(thing) and thing >= least


def greatest_divisor(one, other):
    """Tell the greatest number that divides both, 0 for two zeros."""
    while other != 0:
        one, other = other, one % other
    return abs(one)


def fraction(top, bottom):
    """Tell the fraction (top, bottom) without a common divisor, its bottom 1 or more."""
    shared = greatest_divisor(top, bottom)
    if bottom < 0:
        shared = -shared
    return (top // shared, bottom // shared)


def power(base, exponent):
    """Tell the base to an exponent from 0 on."""
    told = 1
    for at in reversed(range(exponent.bit_length())):
        told *= told
        if (exponent >> at) & 1:
            told *= base
    return told


def inverse(number, base):
    """Tell the number from 0 to below the base that, times a number without a common divisor, leaves 1 by it."""
    rest, later, worth, other = number % base, base, 1, 0
    while later != 0:
        many = rest // later
        rest, later = later, rest - many * later
        worth, other = other, worth - many * other
    return worth % base


def power_inverse(number, base, exponent):
    """Tell the inverse of a number by the base to an exponent.

    Each turn doubles the exponent for which it holds, so that great powers need no long division chain.
    """
    whole = power(base, exponent)
    told = inverse(number, base) % whole
    holds = 1
    while holds < exponent:
        told = told * (2 - number * told) % whole
        holds *= 2
    return told


def terms_below(first, step, bound):
    """Tell how many of the numbers first, first + step, first + 2 step .. are below a bound."""
    return max(0, -((first - bound) // step))
