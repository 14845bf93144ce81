"""Point [12], fact T: times, told exactly."""

import copy
import itertools
import random
import unittest
from fractions import Fraction
from math import floor, isqrt, prod

from fastestalong.courses import greatest
from fastestalong.errors import InvalidCount, InvalidCourse, InvalidFraction, InvalidPart, InvalidWay, Refused
from fastestalong.times import exact_time, is_by, pace, sooner, told_time
from oracles import nearly_time, numbers, part_of, square_on
from samples import (
    COURSE, NOT_FRACTIONS, ODD_VALUES, course_of, number, pair, some_course, some_number, some_programs, with_member,
)

NINETY = Fraction(1, 10 ** 90)
CLOSE = Fraction(1, 10 ** 150)

# All odd primes below a hundred divide the first; modulo each of them the second is 1, a square.
MANY_PRIMES = prod(number for number in range(3, 100) if all(number % divisor for divisor in range(2, number)))
KERNELS = (
    1, 2, 3, 6, 35, 10007, 2 * 10007, 10 ** 9 + 7, (10 ** 9 + 7) * (10 ** 9 + 9), 2 ** 61 - 1,
    (2 ** 61 - 1) * (2 ** 89 - 1), 3 * (2 ** 127 - 1), MANY_PRIMES, MANY_PRIMES + 1, 2 * MANY_PRIMES,
)


def some_factor(chance):
    return Fraction(chance.choice((1, 2, 3, 10, 97, 10 ** 20 + 1)), chance.choice((1, 2, 7, 101, 10 ** 15 + 1)))


def kernel_course(chance, many, kernels):
    """A course whose squares are one of these kernels times a square, with the kernel of each."""
    at, rows, told = Fraction(0), [], []
    for _ in range(many):
        kernel = chance.choice(kernels)
        rows.append((at, kernel * some_factor(chance) ** 2))
        told.append(kernel)
        at += some_number(chance, 1, 9)
    return course_of(*rows), told


def kernel_time(course, kernels):
    """The time of the whole course: by kernel the fraction that its root is to be multiplied with."""
    told, rows = {}, numbers(course)
    roots = [Fraction(isqrt((square / kernel).numerator), isqrt((square / kernel).denominator))
             for (_, square), kernel in zip(rows, kernels)]
    for index in range(len(rows) - 1):
        length, change = rows[index + 1][0] - rows[index][0], rows[index + 1][1] - rows[index][1]
        one, other = kernels[index], kernels[index + 1]
        if change == 0:
            told[one] = told.get(one, 0) + length / rows[index][1] * roots[index]
        else:
            told[other] = told.get(other, 0) + 2 * length / change * roots[index + 1]
            told[one] = told.get(one, 0) - 2 * length / change * roots[index]
    return {kernel: factor for kernel, factor in told.items() if factor != 0}


def whole_of(course):
    return course[-1][0]


class TestExactTime(unittest.TestCase):
    def check(self, course, low, high, told):
        before = copy.deepcopy(course)
        told = None if told is None else pair(told)
        self.assertEqual(exact_time(course, low, high), told)
        self.assertEqual(exact_time(high=high, low=low, course=course), told)
        self.assertEqual(course, before)

    def test_squares_of_fractions(self):
        chance = random.Random(1)
        for many in (2, 3, 10, 60):
            course, kernels = kernel_course(chance, many, (1,))
            self.check(course, (0, 1), whole_of(course), kernel_time(course, kernels)[1])

    def test_roots_of_several_kinds(self):
        chance, seen = random.Random(2), set()
        for _ in range(150):
            some = chance.sample(KERNELS, chance.randint(1, 4))
            course, kernels = kernel_course(chance, chance.randint(2, 5), some)
            told = kernel_time(course, kernels)
            is_whole = set(told) <= {1}
            seen.add((is_whole, len(told)))
            self.check(course, (0, 1), whole_of(course), told.get(1, Fraction(0)) if is_whole else None)
        self.assertTrue({(True, 1), (False, 1), (False, 2), (False, 3)} <= seen)

    def test_the_kernels_are_of_unlike_kinds(self):
        for one, other in itertools.combinations(KERNELS, 2):
            self.assertNotEqual(isqrt(one * other) ** 2, one * other)

    def test_two_kinds_side_by_side(self):
        for one, other in itertools.permutations(KERNELS, 2):
            course = course_of((0, one), (1, one), (2, other), (3, other))
            self.check(course, (0, 1), (3, 1), None)
            self.check(course, (0, 1), (1, 1), 1 if one == 1 else None)
            self.check(course, (2, 1), (3, 1), 1 if other == 1 else None)

    def test_roots_that_cancel_one_another(self):
        # From 1 to r and on to 4: the root of r falls out if the ways are as 1 less r to r less 4.
        for kernel in (2, 3, Fraction(5, 2), Fraction(10007, 5003), 1 + Fraction(1, 10 ** 40)):
            low, high = kernel - 1, 4 - kernel
            course = course_of((0, 1), (low, kernel), (low + high, 4))
            self.check(course, (0, 1), whole_of(course), 2 * (2 - 1))
            self.check(course, (0, 1), pair(low), None)
            self.check(course, pair(low), whole_of(course), None)
            other = with_member(course, 2, (pair(low + high + NINETY), (4, 1)))
            self.check(other, (0, 1), whole_of(other), None)

    def test_many_roots_that_cancel_one_another(self):
        # One rise all along, parted at many ways: only the roots at its ends are left.
        chance = random.Random(3)
        rows = sorted({Fraction(1), Fraction(49)} | {some_number(chance, 2, 48) for _ in range(60)})
        course = course_of(*[(square - 1, square) for square in rows])
        self.check(course, (0, 1), (48, 1), 12)
        self.check(course, (3, 1), (8, 1), 2)
        self.check(course, (3, 1), (9, 1), None)
        self.check(course_of((0, 1), (48, 49)), (0, 1), (48, 1), 12)

    def test_parts_of_courses(self):
        course = course_of((0, 0), (4, 4), (7, 4), (9, 0))
        for low, high, told in (
            (0, 1, 2), (1, 4, 2), (0, 4, 4), (4, 7, Fraction(3, 2)), (5, 6, Fraction(1, 2)), (7, 9, 2), (0, 9, Fraction(15, 2)),
            (1, 6, 3), (Fraction(17, 2), 9, 1), (0, 2, None), (2, 4, None), (2, 8, None), (6, Fraction(17, 2), Fraction(3, 2)),
        ):
            self.check(course, pair(low), pair(high), told)
        self.check(course, (2, 1), (2, 1), 0)

    def test_level_lines(self):
        course = course_of((0, 2), (3, 2), (9, 2))
        self.check(course, (0, 1), (3, 1), None)
        self.check(course, (1, 1), (1, 1), 0)
        self.check(course_of((0, Fraction(4, 9)), (3, Fraction(4, 9))), (1, 1), (2, 1), Fraction(3, 2))

    def test_the_same_way_twice(self):
        for course in (COURSE, course_of((0, 0)), course_of((0, 7)), course_of((0, 0), (5, 0), (6, 0))):
            for way, _ in course:
                self.check(course, way, way, 0)
        self.check(course_of((0, 0), (5, 0), (6, 1)), (2, 1), (2, 1), 0)

    def test_two_hundred_members(self):
        chance = random.Random(4)
        course, kernels = kernel_course(chance, 200, (1,))
        self.check(course, (0, 1), whole_of(course), kernel_time(course, kernels)[1])
        self.check(some_course(chance, 200), (0, 1), (300, 1), None)


class TestToldTime(unittest.TestCase):
    def check(self, course, low, high, digits):
        before = copy.deepcopy(course)
        told = told_time(course, low, high, digits)
        self.assertEqual(told, told_time(digits=digits, high=high, low=low, course=course))
        self.assertEqual(course, before)
        exact, step = exact_time(course, low, high), Fraction(1, 10 ** digits)
        if exact is not None:
            self.assertEqual(told, pair(floor(number(exact) / step) * step))
        nearly = nearly_time(course, number(low), number(high))
        self.assertEqual((number(told) / step).denominator, 1)
        self.assertLess(number(told), nearly + CLOSE)
        self.assertLess(nearly, number(told) + step + CLOSE)
        return told

    def test_digits_from_0_to_30(self):
        chance = random.Random(5)
        for digits in range(31):
            course = some_course(chance, chance.randint(2, 9))
            last = number(whole_of(course))
            self.check(course, (0, 1), pair(last), digits)
            self.check(course, pair(last / 7), pair(last * Fraction(6, 7)), digits)
            self.check(course, course[-2][0], pair(last), digits)

    def test_greatest_courses(self):
        for program, limits in some_programs(6, 20):
            course = greatest(program, limits)
            self.check(course, (0, 1), whole_of(course), 12)

    def test_times_that_are_such_a_multiple(self):
        course = course_of((0, 4), (10, 4))
        for way, digits, told in (
            (5, 0, 2), (5, 1, Fraction(5, 2)), (4, 0, 2), (4, 30, 2), (Fraction(2, 10 ** 30), 30, Fraction(1, 10 ** 30)),
            (Fraction(2, 10 ** 30), 29, 0), (Fraction(2, 3), 5, Fraction(33333, 10 ** 5)), (0, 7, 0),
        ):
            self.assertEqual(told_time(course, (0, 1), pair(way), digits), pair(told))

    def test_times_right_beside_such_a_multiple(self):
        # Along a level line of the square 2 the time is the way by the root of 2.
        for places in (31, 40, 90):
            root = Fraction(isqrt(2 * 10 ** (2 * places)), 10 ** places)
            course = course_of((0, 2), (5, 2))
            for digits in (0, 3, 30):
                step = Fraction(1, 10 ** digits)
                self.assertEqual(told_time(course, (0, 1), pair(root), digits), pair(1 - step))
                above = pair(root + Fraction(1, 10 ** places))
                self.assertEqual(told_time(course, (0, 1), above, digits), (1, 1))

    def test_roots_that_nearly_cancel_one_another(self):
        course = course_of((0, 5), (1, 5 + NINETY), (2, 5), (3, 5 + 7 * NINETY), (4, 5 - NINETY))
        for digits in (0, 9, 30):
            self.check(course, (0, 1), (4, 1), digits)
            self.check(course, (1, 3), (7, 2), digits)

    def test_small_and_great(self):
        great = 10 ** 89
        for course in (
            course_of((0, 0), (great, great - 1)), course_of((0, great), (Fraction(1, great), 0)),
            course_of((0, Fraction(1, great)), (7, Fraction(3, great)), (8, great)),
        ):
            for digits in (0, 30):
                self.check(course, (0, 1), whole_of(course), digits)

    def test_two_hundred_members(self):
        chance = random.Random(7)
        for course in (some_course(chance, 200), kernel_course(chance, 200, KERNELS)[0]):
            self.check(course, (0, 1), whole_of(course), 30)
            self.check(course, course[3][0], course[190][0], 15)

    def test_fact_t_of_a_way_between(self):
        chance = random.Random(8)
        for _ in range(25):
            course = some_course(chance, 5)
            last = number(whole_of(course))
            low, middle, high = sorted(last * Fraction(chance.randint(0, 60), 60) for _ in range(3))
            parts = number(told_time(course, pair(low), pair(middle), 30)) \
                + number(told_time(course, pair(middle), pair(high), 30))
            told = number(told_time(course, pair(low), pair(high), 30))
            self.assertTrue(0 <= told - parts <= Fraction(1, 10 ** 30))


class TestSooner(unittest.TestCase):
    def check(self, course, other, told):
        before = copy.deepcopy((course, other))
        for one, two, sign in ((course, other, told), (other, course, -told)):
            self.assertEqual(sooner(one, two), sign)
            self.assertIs(type(sooner(one, two)), int)
            self.assertEqual(sooner(other_course=two, course=one), sign)
        self.assertEqual((course, other), before)

    def test_of_any_kind(self):
        chance, seen = random.Random(9), set()
        for _ in range(60):
            course, other = some_course(chance, chance.randint(2, 6)), some_course(chance, chance.randint(2, 6))
            less = nearly_time(course, Fraction(0), number(whole_of(course))) \
                - nearly_time(other, Fraction(0), number(whole_of(other)))
            told = (less > 0) - (less < 0)
            seen.add(told)
            self.assertGreater(abs(less), CLOSE)
            self.check(course, other, told)
        self.assertEqual(seen, {-1, 1})

    def test_the_same_time(self):
        chance = random.Random(10)
        for many in (2, 3, 8, 40):
            course = some_course(chance, many)
            rows, last = numbers(course), number(whole_of(course))
            self.check(course, course, 0)
            self.check(course, course_of(*[(last - way, square) for way, square in rows][::-1]), 0)
            self.check(course, course_of(*[(way * 3, square * 9) for way, square in rows]), 0)
            ways = sorted({way for way, _ in rows} | {last * Fraction(k, 11) for k in range(12)})
            self.check(course, course_of(*[(way, square_on(rows, way)) for way in ways]), 0)

    def test_the_same_time_of_roots_and_of_fractions(self):
        self.check(course_of((0, 1), (1, 2), (3, 4)), course_of((0, 4), (4, 4)), 0)
        self.check(course_of((0, 2), (2, 2)), course_of((0, 8), (4, 8)), 0)
        self.check(course_of((0, 2), (2, 2)), course_of((0, Fraction(9, 2)), (3, Fraction(9, 2))), 0)
        self.check(course_of((0, 0)), course_of((0, 9)), 0)
        self.check(course_of((0, 0)), course_of((0, 9), (NINETY, 9)), -1)

    def test_raised_by_very_little(self):
        chance = random.Random(11)
        for many in (2, 3, 20, 200):
            course = some_course(chance, many)
            for index in {0, 1, many // 2, many - 1}:
                way, square = course[index]
                raised = with_member(course, index, (way, pair(number(square) + NINETY)))
                self.check(raised, course, -1)

    def test_the_ends_of_fact_t(self):
        for program, limits in some_programs(12, 15):
            course = greatest(program, limits)
            rows = numbers(course)
            lower = course_of(*[(way, square * Fraction(99, 100)) for way, square in rows])
            self.check(course, lower, -1)
            for factor in (2, Fraction(1, 3)):
                other = course_of(*[(way, square * factor ** 2) for way, square in rows])
                exact, told = (exact_time(told, (0, 1), whole_of(course)) for told in (course, other))
                self.assertEqual(exact is None, told is None)
                if exact is not None:
                    self.assertEqual(number(told) * factor, number(exact))
                stretched = course_of(*[(way * factor, square) for way, square in numbers(other)])
                self.check(stretched, course, 0)

    def test_longer_and_shorter(self):
        self.check(course_of((0, 1), (5, 1)), course_of((0, 1), (5 + NINETY, 1)), -1)
        self.check(course_of((0, 3), (5, 3)), course_of((0, 3), (5 + NINETY, 3)), -1)
        self.check(COURSE, COURSE[:-1], 1)

    def test_nearly_the_same(self):
        # Times of a root and of a fraction, alike in so many places.
        for places in (20, 60, 95):
            root = Fraction(isqrt(3 * 10 ** (2 * places)), 10 ** places)
            course = course_of((0, 3), (3, 3))
            self.check(course, course_of((0, 1), (root, 1)), 1)
            self.check(course, course_of((0, 1), (root + Fraction(1, 10 ** places), 1)), -1)


class TestIsBy(unittest.TestCase):
    def check(self, course, way, moment, told):
        before = copy.deepcopy(course)
        self.assertIs(is_by(course, way, pair(moment)), told)
        self.assertIs(is_by(moment=pair(moment), way=way, course=course), told)
        self.assertEqual(course, before)

    def test_just_the_time_and_beside_it(self):
        for course, way, time in (
            (course_of((0, 0), (4, 4), (7, 4)), (6, 1), Fraction(5)),
            (course_of((0, 0), (4, 4), (7, 4)), (1, 1), Fraction(2)),
            (course_of((0, 1), (1, 2), (3, 4)), (3, 1), Fraction(2)),
            (course_of((0, Fraction(4, 9)), (5, Fraction(4, 9))), (1, 7), Fraction(3, 14)),
        ):
            self.check(course, way, time, True)
            for beside in (Fraction(1, 10 ** 30), NINETY, Fraction(1, 7), time + 1):
                self.check(course, way, time + beside, True)
                self.check(course, way, time - beside, False)

    def test_times_that_are_no_fractions(self):
        chance = random.Random(13)
        for _ in range(25):
            course = some_course(chance, 4)
            way = pair(number(whole_of(course)) * Fraction(chance.randint(1, 30), 30))
            if exact_time(course, (0, 1), way) is None:
                told = number(told_time(course, (0, 1), way, 30))
                self.check(course, way, told, False)
                self.check(course, way, told + Fraction(1, 10 ** 30), True)
                nearly = nearly_time(course, Fraction(0), number(way))
                self.check(course, way, nearly - NINETY, False)
                self.check(course, way, nearly + NINETY, True)

    def test_at_the_start(self):
        for course in (COURSE, course_of((0, 0)), course_of((0, 0), (1, 0))):
            self.check(course, (0, 1), 0, True)
            self.check(course, (0, 1), NINETY, True)
            self.check(course, (0, 1), -NINETY, False)

    def test_moments_below_nought(self):
        for moment in (-1, -NINETY, -(10 ** 89), 0):
            self.check(COURSE, (1, 1), moment, False)
        self.check(COURSE, (1, 1), 10 ** 89, True)


class TestPace(unittest.TestCase):
    def check(self, course, way, digits):
        before = copy.deepcopy(course)
        told, step = number(pace(course, way, digits)), Fraction(1, 10 ** digits)
        self.assertEqual(pace(digits=digits, way=way, course=course), pair(told))
        square = square_on(numbers(course), number(way))
        self.assertEqual((told / step).denominator, 1)
        self.assertTrue(0 <= told and told ** 2 <= square < (told + step) ** 2)
        self.assertEqual(course, before)

    def test_at_members_and_between(self):
        chance = random.Random(14)
        for digits in range(31):
            course = some_course(chance, 4)
            for way, _ in course:
                self.check(course, way, digits)
            self.check(course, pair(number(whole_of(course)) * Fraction(3, 7)), digits)

    def test_squares_of_fractions(self):
        course = course_of((0, 0), (4, 4), (5, Fraction(1, 10 ** 60)))
        for way, digits, told in (
            ((0, 1), 7, 0), ((4, 1), 0, 2), ((4, 1), 30, 2), ((1, 1), 30, 1), ((5, 1), 30, Fraction(1, 10 ** 30)),
            ((5, 1), 29, 0), ((1, 4), 0, 0), ((1, 4), 1, Fraction(1, 2)), ((2, 1), 2, Fraction(141, 100)),
        ):
            self.assertEqual(pace(course, way, digits), pair(told))

    def test_where_the_tool_does_not_come_on(self):
        course = course_of((0, 0), (4, 0), (5, 0))
        for way in ((0, 1), (2, 1), (4, 1), (5, 1)):
            self.assertEqual(pace(course, way, 5), (0, 1))


class TestRefused(unittest.TestCase):
    COURSE = course_of((0, 1), (1, 0), (2, 0), (3, 1), (4, 0), (5, 1), (6, 0), (7, 0), (8, 0))

    def times(self, low, high):
        return (
            lambda: exact_time(self.COURSE, pair(low), pair(high)), lambda: told_time(self.COURSE, pair(low), pair(high), 9),
        )

    def test_stretches_that_have_a_part_of_nothing_but_nought(self):
        for low, high in (
            (0, 2), (0, 8), (1, 2), (Fraction(3, 2), Fraction(5, 3)), (0, 1 + NINETY), (2 - NINETY, 3), (6, 7), (7, 8),
            (5, 6 + NINETY), (8 - NINETY, 8), (Fraction(13, 2), Fraction(15, 2)), (3, 8),
        ):
            for call in self.times(low, high):
                with self.assertRaises(Refused):
                    call()

    def test_other_stretches(self):
        for low, high, told in ((0, 1, 2), (2, 3, 2), (2, 6, 8), (3, 5, 4), (1, 1, 0), (Fraction(3, 2),) * 2 + (0,), (8, 8, 0)):
            for call in self.times(low, high):
                self.assertEqual(call(), pair(told))

    def test_whole_courses(self):
        for other in (COURSE, course_of((0, 0)), self.COURSE):
            with self.assertRaises(Refused):
                sooner(self.COURSE, other)
            with self.assertRaises(Refused):
                sooner(other, self.COURSE)
        for course in (course_of((0, 0), (1, 0)), course_of((0, 1), (1, 0), (1 + NINETY, 0))):
            with self.assertRaises(Refused):
                sooner(course, course)
            with self.assertRaises(Refused):
                sooner(COURSE, course)

    def test_is_by(self):
        for way in (1 + NINETY, 2, 3, 8):
            for moment in (0, -1, 10 ** 80):
                with self.assertRaises(Refused):
                    is_by(self.COURSE, pair(way), pair(moment))
        self.assertIs(is_by(self.COURSE, (1, 1), (2, 1)), True)
        self.assertIs(is_by(course_of((0, 0), (9, 0)), (0, 1), (0, 1)), True)

    def test_low_above_high_goes_ahead(self):
        for low, high in ((2, 1), (8, 0), (3, 3 - NINETY), (NINETY, 0), (8, 7)):
            for call in self.times(low, high):
                with self.assertRaises(InvalidPart):
                    call()


class TestWrongInputs(unittest.TestCase):
    def test_ways(self):
        wrong = NOT_FRACTIONS + [(-1, 1), (-1, 10 ** 90), (8, 1), pair(7 + NINETY), (10 ** 90, 1)]
        for way in wrong:
            for call in (
                lambda: exact_time(COURSE, way, (7, 1)), lambda: exact_time(COURSE, (0, 1), way),
                lambda: told_time(COURSE, way, (7, 1), 3), lambda: told_time(COURSE, (0, 1), way, 3),
                lambda: is_by(COURSE, way, (1, 1)), lambda: pace(COURSE, way, 3),
            ):
                with self.assertRaises(InvalidWay):
                    call()

    def test_digits(self):
        wrong = [value for value in ODD_VALUES if not (type(value) is int and 0 <= value <= 30)]
        for digits in wrong + [-1, 31, True, False, (3, 1), "3", 10 ** 30]:
            with self.assertRaises(InvalidCount):
                told_time(COURSE, (0, 1), (7, 1), digits)
            with self.assertRaises(InvalidCount):
                pace(COURSE, (0, 1), digits)

    def test_moments(self):
        for moment in NOT_FRACTIONS:
            with self.assertRaises(InvalidFraction):
                is_by(COURSE, (7, 1), moment)

    def test_the_sequence_of_the_errors(self):
        still = course_of((0, 0), (5, 0))
        for call, error in (
            (lambda: told_time(None, None, None, None), InvalidCourse),
            (lambda: told_time(still, None, None, None), InvalidWay),
            (lambda: told_time(still, (4, 1), (3, 1), 31), InvalidCount),
            (lambda: told_time(still, (4, 1), (3, 1), 30), InvalidPart),
            (lambda: told_time(still, (3, 1), (4, 1), 31), InvalidCount),
            (lambda: told_time(still, (3, 1), (4, 1), 30), Refused),
            (lambda: exact_time(still, (4, 1), (6, 1)), InvalidWay),
            (lambda: exact_time(still, (4, 1), (3, 1)), InvalidPart),
            (lambda: is_by(still, (6, 1), None), InvalidWay),
            (lambda: is_by(still, (5, 1), None), InvalidFraction),
            (lambda: is_by(still, (5, 1), (1, 1)), Refused),
            (lambda: sooner(still, None), InvalidCourse),
            (lambda: sooner(None, still), InvalidCourse),
            (lambda: pace(still, (6, 1), 31), InvalidWay),
        ):
            with self.assertRaises(error):
                call()

    def test_the_parts_of_the_sample(self):
        self.assertEqual(part_of(COURSE, Fraction(1), Fraction(3))[1], (2, 1))
        self.assertIsNone(exact_time(COURSE, (0, 1), (7, 1)))


if __name__ == "__main__":
    unittest.main()
