"""Fractions: tuples (top, bottom) of integers in lowest terms, bottom from 1 on."""

from math import gcd, isqrt

from fastestalong.errors import InvalidCount, InvalidFraction, InvalidText
from fastestalong.exact import NOUGHT, added, divided, is_less, multiplied, power, reduced, subtracted
from fastestalong.numerals import number_fault, number_text, number_told

MOST_DIGITS = 30


def is_integer(value):
    """Whether a value is an integer, and no truth."""
    return type(value) is int


def is_fraction(value):
    """Whether a value is a fraction."""
    if type(value) is not tuple or len(value) != 2:
        return False
    top, bottom = value
    if not is_integer(top) or not is_integer(bottom):
        return False
    return bottom >= 1 and gcd(top, bottom) == 1


def check_fraction(value):
    """Raises InvalidFraction of what is no fraction."""
    if not is_fraction(value):
        raise InvalidFraction("this is no fraction")


def check_both(one, other):
    """Raises InvalidFraction unless both are fractions."""
    check_fraction(one)
    check_fraction(other)


def check_count(value, low, high):
    """Raises InvalidCount of what is no integer from low to high."""
    if not is_integer(value) or not low <= value <= high:
        raise InvalidCount("this is no integer within the bounds")


def fraction(top, bottom):
    """The fraction that is top divided by bottom."""
    if not is_integer(top) or not is_integer(bottom):
        raise InvalidFraction("a fraction is made of two integers")
    if bottom == 0:
        raise InvalidFraction("a bottom is not 0")
    return reduced(top, bottom)


def plus(one, other):
    """The sum."""
    check_both(one, other)
    return added(one, other)


def minus(one, other):
    """The first less the other one."""
    check_both(one, other)
    return subtracted(one, other)


def times(one, other):
    """The product."""
    check_both(one, other)
    return multiplied(one, other)


def over(one, other):
    """The first divided by the other one."""
    check_both(one, other)
    if other == NOUGHT:
        raise InvalidFraction("nothing is divided by 0")
    return divided(one, other)


def below(one, other):
    """Whether the first is less than the other one."""
    check_both(one, other)
    return is_less(one, other)


def sum_of(numbers):
    """The sum of a tuple of fractions."""
    if type(numbers) is not tuple:
        raise InvalidFraction("only a tuple is added up")
    total = NOUGHT
    for number in numbers:
        check_fraction(number)
        total = added(total, number)
    return total


def root(number, digits):
    """The greatest multiple of 1 by 10 to the power digits whose square is not above the number."""
    check_fraction(number)
    top, bottom = number
    if top < 0:
        raise InvalidFraction("a number below 0 has no root")
    check_count(digits, 0, MOST_DIGITS)
    scale = power(10, digits)
    return reduced(isqrt(top * scale * scale // bottom), scale)


def fraction_text(number):
    """The text of a fraction."""
    check_fraction(number)
    return number_text(number)


def fraction_told(text):
    """The fraction whose text this is."""
    if type(text) is not str:
        raise InvalidText(0)
    index = number_fault(text)
    if index is not None:
        raise InvalidText(index)
    return number_told(text)
