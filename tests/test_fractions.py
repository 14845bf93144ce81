"""Point [6]: fractions, but for their texts."""

import random
import unittest
from fractions import Fraction
from math import gcd, isqrt

from fastestalong.errors import InvalidCount, InvalidFraction
from fastestalong.fractions import below, fraction, is_fraction, minus, over, plus, root, sum_of, times
from samples import NOT_FRACTIONS, ODD_VALUES, Shelf, Whole, number, pair

BINARY = [plus, minus, times, over, below]


def numbers_of(seed, many):
    """Fractions of a few digits up to forty, below 0 and above."""
    chance = random.Random(seed)
    told = [(0, 1), (1, 1), (-1, 1), (1, 2), (-1, 2), (10 ** 40, 1), (1, 10 ** 40), (-10 ** 40, 10 ** 40 - 1)]
    while len(told) < many:
        size = 10 ** chance.choice((1, 2, 6, 20, 40))
        told.append(pair(Fraction(chance.randint(-size, size), chance.randint(1, size))))
    return told


class TestIsFraction(unittest.TestCase):
    def test_all_small_pairs(self):
        for top in range(-12, 13):
            for bottom in range(-12, 13):
                told = bottom >= 1 and gcd(top, bottom) == 1
                self.assertIs(is_fraction((top, bottom)), told, (top, bottom))

    def test_great_ones(self):
        self.assertIs(is_fraction((10 ** 89, 10 ** 89 + 1)), True)
        self.assertIs(is_fraction((-10 ** 89, 1)), True)
        self.assertIs(is_fraction((10 ** 89, 10 ** 88)), False)
        self.assertIs(is_fraction((3 * 7 ** 40, 2 * 7 ** 40)), False)

    def test_other_values(self):
        for value in NOT_FRACTIONS:
            self.assertIs(is_fraction(value), False)

    def test_by_name(self):
        self.assertIs(is_fraction(value=(1, 2)), True)


class TestFraction(unittest.TestCase):
    def test_all_small_pairs(self):
        for top in range(-12, 13):
            for bottom in range(-12, 13):
                if bottom == 0:
                    continue
                told = fraction(top, bottom)
                self.assertEqual(told, pair(Fraction(top, bottom)))
                self.assertIs(is_fraction(told), True)
        self.assertEqual(fraction(bottom=-4, top=6), (-3, 2))

    def test_common_divisors_of_forty_digits(self):
        common = 10 ** 39 + 7
        self.assertEqual(fraction(3 * common, -5 * common), (-3, 5))
        self.assertEqual(fraction(0, -common), (0, 1))
        self.assertEqual(fraction(-common, -common), (1, 1))

    def test_bottom_of_nought(self):
        for top in (0, 1, -1, 10 ** 89):
            with self.assertRaises(InvalidFraction):
                fraction(top, 0)

    def test_other_values(self):
        for value in ODD_VALUES + [(1, 2)]:
            if type(value) is int:
                continue
            for top, bottom in ((value, 1), (1, value), (value, value), (value, 0)):
                with self.assertRaises(InvalidFraction):
                    fraction(top, bottom)
                with self.assertRaises(InvalidFraction):
                    fraction(bottom=bottom, top=top)
        with self.assertRaises(InvalidFraction):
            fraction(Whole(1), 2)


class TestArithmetic(unittest.TestCase):
    def check(self, call, one, other, told):
        for answer in (call(one, other), call(one=one, other=other), call(other=other, one=one)):
            self.assertEqual(answer, told, (call.__name__, one, other))
            self.assertIs(type(answer), tuple)
            self.assertIs(is_fraction(answer), True)

    def test_as_pythons_own_fractions(self):
        told = numbers_of(1, 60)
        for one in told:
            for other in told:
                first, second = number(one), number(other)
                self.check(plus, one, other, pair(first + second))
                self.check(minus, one, other, pair(first - second))
                self.check(times, one, other, pair(first * second))
                if second:
                    self.check(over, one, other, pair(first / second))
                self.assertIs(below(one, other), first < second)
                self.assertIs(below(other=other, one=one), first < second)

    def test_by_nought(self):
        for one in numbers_of(2, 20):
            with self.assertRaises(InvalidFraction):
                over(one, (0, 1))

    def test_answers_handed_on(self):
        chance = random.Random(3)
        told = (1, 3)
        same = Fraction(1, 3)
        for other in numbers_of(4, 60):
            if other[0] == 0:
                continue
            call = chance.choice((plus, minus, times, over))
            second = number(other)
            told = call(told, other)
            same = {plus: same + second, minus: same - second, times: same * second, over: same / second}[call]
            self.assertEqual(told, pair(same))

    def test_values_that_are_none(self):
        for call in BINARY:
            for value in NOT_FRACTIONS:
                for one, other in ((value, (1, 2)), ((1, 2), value), (value, value)):
                    with self.assertRaises(InvalidFraction):
                        call(one, other)
                    with self.assertRaises(InvalidFraction):
                        call(other=other, one=one)

    def test_one_is_looked_at_even_if_the_other_is_nought(self):
        with self.assertRaises(InvalidFraction):
            over((2, 4), (0, 1))


class TestSum(unittest.TestCase):
    def test_of_none(self):
        self.assertEqual(sum_of(()), (0, 1))
        self.assertEqual(sum_of(numbers=()), (0, 1))

    def test_in_any_sequence(self):
        chance = random.Random(5)
        for many in range(1, 31):
            told = numbers_of(many, 40)
            chance.shuffle(told)
            told = told[:many]
            same = pair(sum(number(one) for one in told))
            for _ in range(3):
                chance.shuffle(told)
                self.assertEqual(sum_of(tuple(told)), same)
                self.assertEqual(sum_of(numbers=tuple(told)), same)

    def test_that_comes_to_nought(self):
        told = tuple(numbers_of(6, 15))
        against = tuple((-top, bottom) for top, bottom in told)
        self.assertEqual(sum_of(told + against), (0, 1))

    def test_of_thousands_with_great_bottoms(self):
        chance = random.Random(7)
        told = tuple(pair(Fraction(chance.randrange(10 ** 99), chance.randrange(1, 10 ** 99))) for _ in range(1000))
        answer = sum_of(told + tuple((-top, bottom) for top, bottom in told))
        self.assertEqual(answer, (0, 1))

    def test_other_values(self):
        for value in NOT_FRACTIONS:
            for numbers in ((value,), ((1, 2), value), (value, (1, 2)), ((1, 2),) * 29 + (value,)):
                with self.assertRaises(InvalidFraction):
                    sum_of(numbers)
        for value in ODD_VALUES + [[(1, 2), (1, 3)], (1, 2), Shelf([(1, 2)])]:
            if value in ((), ((0, 1),), ((0, 1), (0, 1))) and type(value) is tuple:
                continue
            with self.assertRaises(InvalidFraction):
                sum_of(value)


class TestRoot(unittest.TestCase):
    def check(self, told, digits):
        answer = root(told, digits)
        self.assertEqual(answer, root(digits=digits, number=told))
        self.assertIs(is_fraction(answer), True)
        step = Fraction(1, 10 ** digits)
        found = number(answer)
        self.assertGreaterEqual(found, 0)
        self.assertEqual((found / step).denominator, 1)
        self.assertLessEqual(found ** 2, number(told))
        self.assertGreater((found + step) ** 2, number(told))

    def test_of_whole_numbers(self):
        for whole in list(range(40)) + [10 ** 40, 10 ** 89, 10 ** 40 - 1]:
            for digits in (0, 1, 2, 15, 29, 30):
                self.check((whole, 1), digits)

    def test_of_cents(self):
        for cents in range(0, 500, 7):
            for digits in (0, 1, 2, 30):
                self.check(pair(Fraction(cents, 100)), digits)

    def test_of_squares_and_beside_them(self):
        for one in numbers_of(8, 40):
            square = number(one) ** 2
            for digits in (0, 3, 30):
                self.check(pair(square), digits)
                self.check(pair(square + Fraction(1, 10 ** 90)), digits)
                if square > Fraction(1, 10 ** 90):
                    self.check(pair(square - Fraction(1, 10 ** 90)), digits)

    def test_exact_ones(self):
        self.assertEqual(root((2, 1), 3), (707, 500))
        self.assertEqual(root((9, 4), 1), (3, 2))
        self.assertEqual(root((9, 4), 0), (1, 1))
        self.assertEqual(root((0, 1), 30), (0, 1))
        self.assertEqual(root((1, 10 ** 61), 30), (0, 1))
        self.assertEqual(root((1, 10 ** 60), 30), (1, 10 ** 30))
        self.assertEqual(root((2, 1), 30), pair(Fraction(isqrt(2 * 10 ** 60), 10 ** 30)))

    def test_numbers_that_are_none_ahead_of_digits(self):
        for value in NOT_FRACTIONS + [(-1, 1), (-1, 10 ** 40)]:
            for digits in (3, -1, 31, None, "3", True):
                with self.assertRaises(InvalidFraction):
                    root(value, digits)
                with self.assertRaises(InvalidFraction):
                    root(digits=digits, number=value)

    def test_digits_that_are_none(self):
        for digits in [value for value in ODD_VALUES if type(value) is not int] + [-1, 31, 10 ** 89, -10 ** 89]:
            with self.assertRaises(InvalidCount):
                root((2, 1), digits)
            with self.assertRaises(InvalidCount):
                root(digits=digits, number=(0, 1))


if __name__ == "__main__":
    unittest.main()
