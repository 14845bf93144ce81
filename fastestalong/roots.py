"""Sums of roots times factors, for the package itself: nothing is checked here.

A term (factor, square) means the fraction factor times the root of the
fraction square, which is not below 0. Roots of which none is a fraction's
multiple of another one, nor a fraction, are independent: a sum of them is a
fraction only if all their factors are 0. So it is enough to bring together
what are multiples of one another; then a sum of which a root is left is no
fraction, and an ever closer look tells on which side of one it is.
"""

from math import isqrt

from fastestalong.exact import NOUGHT, added, divided, multiplied, side, squared

ONE = (1, 1)
FIRST_BITS = 64
PRIMES = (3, 5, 7, 11, 13, 17, 19, 23, 29, 31, 37, 41, 43, 47, 53, 59, 61, 67, 71, 73, 79, 83, 89, 97)


def mark(square, prime):
    """0 if the prime divides top or bottom, else 1 or -1 as their product is a square modulo the prime or not."""
    left = (square[0] % prime) * (square[1] % prime) % prime
    if left == 0:
        return 0
    return 1 if left in [number * number % prime for number in range(1, prime)] else -1


def may_be_kin(marks, other_marks):
    """Whether the marks of two squares let the root of one be a fraction's multiple of that of the other."""
    return all(one * other != -1 for one, other in zip(marks, other_marks))


def root_ratio(one, other):
    """The root of one square divided by that of the other one, which is not 0; None if it is no fraction."""
    ratio = divided(one, other)
    told = (isqrt(ratio[0]), isqrt(ratio[1]))
    return told if squared(told) == ratio else None


class Kin:
    """A sum of roots that are all a fraction's multiples of the root of one number: share times that root."""

    def __init__(self, unit, marks):
        self.unit = unit
        self.marks = marks
        self.share = NOUGHT

    def took(self, factor, square, marks):
        """Adds a term to the sum if its root is such a multiple, and tells whether it is."""
        # Marks first: without them long numbers would be divided for each pair of terms.
        if not may_be_kin(self.marks, marks):
            return False
        ratio = root_ratio(square, self.unit)
        if ratio is None:
            return False
        self.share = added(self.share, multiplied(factor, ratio))
        return True


def place(families, factor, square):
    """Adds a term to the family of its root, to a new one if there is none."""
    marks = [mark(square, prime) for prime in PRIMES]
    for kin in families:
        if kin.took(factor, square, marks):
            return
    kin = Kin(square, marks)
    kin.took(factor, square, marks)
    families.append(kin)


def first_families():
    """Families of roots, without a term: that of 1 alone.

    The root of 0 is a multiple of that of 1, too: 0 times it.
    """
    return [Kin(ONE, [1] * len(PRIMES))]


def summed(families):
    """The sum of all terms of families as (fraction, terms): none of these is 0, and their roots are independent."""
    left = [(kin.share, kin.unit) for kin in families[1:] if kin.share != NOUGHT]
    return (families[0].share, left)


def gathered(terms):
    """The sum of terms, as summed tells it."""
    factors = {}
    for factor, square in terms:
        factors[square] = added(factors.get(square, NOUGHT), factor)
    families = first_families()
    for square, factor in factors.items():
        place(families, factor, square)
    return summed(families)


def floor_of(factor, square, bits):
    """The greatest integer not above 2 to the power bits times a term whose root is no fraction."""
    top, bottom = multiplied(squared(factor), square)
    floor = isqrt((top << 2 * bits) // bottom)
    return floor if factor[0] > 0 else -floor - 1


def floor_bounds(total, bits):
    """The least and the greatest integer that the floor of a gathered sum, times 2 to the power bits, may be."""
    number, terms = total
    low = (number[0] << bits) // number[1]
    for factor, square in terms:
        low = low + floor_of(factor, square, bits)
    return (low, low + len(terms))


def sign_of(total):
    """-1, 0 or 1 as a gathered sum is below 0, 0, or above."""
    number, terms = total
    if not terms:
        return side(number, NOUGHT)
    bits = FIRST_BITS
    low, high = floor_bounds(total, bits)
    while low < 0 <= high:
        bits = 2 * bits
        low, high = floor_bounds(total, bits)
    return 1 if low >= 0 else -1


def floor_at(total, scale):
    """The greatest integer not above a gathered sum times an integer above 0."""
    number, terms = total
    by = (scale, 1)
    grown = (multiplied(number, by), [(multiplied(factor, by), square) for factor, square in terms])
    bits = FIRST_BITS
    low, high = floor_bounds(grown, bits)
    # Without a root left both bounds are one from the beginning.
    while low >> bits != high >> bits:
        bits = 2 * bits
        low, high = floor_bounds(grown, bits)
    return low >> bits
