"""Arithmetic of values that are known to be fractions: nothing is checked here.

The calls of fractions.py check what they are handed; the rest of the package
works with these, so that nothing is checked at each single step.
"""

from math import gcd

NOUGHT = (0, 1)


def reduced(top, bottom):
    """The fraction that is top divided by bottom, which is not 0."""
    common = gcd(top, bottom)
    if bottom < 0:
        common = -common
    return (top // common, bottom // common)


def added(one, other):
    """The sum of two fractions."""
    top, bottom = one
    other_top, other_bottom = other
    # Long sums stay fast, as only divisors of the two bottoms can be common
    # to the sum's top and bottom, and these are much shorter than the sum.
    common = gcd(bottom, other_bottom)
    rest = bottom // common
    total = top * (other_bottom // common) + other_top * rest
    left = gcd(total, common)
    return (total // left, rest * (other_bottom // left))


def subtracted(one, other):
    """One fraction less the other one."""
    return added(one, opposite(other))


def multiplied(one, other):
    """The product of two fractions."""
    top, bottom = one
    other_top, other_bottom = other
    # Divided out ahead of the products, where the numbers are shorter.
    common = gcd(top, other_bottom)
    other_common = gcd(other_top, bottom)
    return (
        (top // common) * (other_top // other_common),
        (bottom // other_common) * (other_bottom // common),
    )


def inverse(number):
    """1 divided by a fraction that is not 0."""
    top, bottom = number
    return (bottom, top) if top > 0 else (-bottom, -top)


def divided(one, other):
    """One fraction divided by the other one, which is not 0."""
    return multiplied(one, inverse(other))


def twice(number):
    """The fraction with itself added."""
    return multiplied((2, 1), number)


def squared(number):
    """The fraction times itself."""
    return (number[0] * number[0], number[1] * number[1])


def opposite(number):
    """0 less the fraction."""
    return (-number[0], number[1])


def absolute(number):
    """The fraction without its sign."""
    return (abs(number[0]), number[1])


def is_less(one, other):
    """Whether one fraction is less than the other one."""
    return one[0] * other[1] < other[0] * one[1]


def side(one, other):
    """-1, 0 or 1 as one fraction is less than the other one, the same, or greater."""
    if one == other:
        return 0
    return -1 if is_less(one, other) else 1


def smallest(numbers):
    """The least of one or more fractions."""
    least = numbers[0]
    for number in numbers:
        if is_less(number, least):
            least = number
    return least


def largest(numbers):
    """The greatest of one or more fractions."""
    most = numbers[0]
    for number in numbers:
        if is_less(most, number):
            most = number
    return most


def power(base, exponent):
    """An integer to the power of an exponent from 0 on."""
    product = 1
    for _ in range(exponent):
        product = product * base
    return product
