"""Point [9]: what is a course, and what is none."""

import random
import unittest
from fractions import Fraction

from fastestalong.courses import course_fault, greatest, is_below, is_course, judged, square_at
from fastestalong.errors import InvalidCourse
from fastestalong.times import exact_time, is_by, pace, sooner, told_time
from samples import (
    COURSE, LIMITS, NOT_FRACTIONS, NOT_FROM_NOUGHT, ODD_VALUES, PROGRAM, Whole, course_of, some_course, some_programs,
    with_member, wrong_courses,
)


def courses():
    yield COURSE
    yield course_of((0, 0), (1, 5), (2, 5))
    yield course_of((0, Fraction(1, 10 ** 90)), (Fraction(1, 10 ** 90), 0), (10 ** 89, 10 ** 89))
    yield some_course(random.Random(1), 12)


class TestCourseFault(unittest.TestCase):
    def check(self, value, index):
        before = repr(value)
        self.assertEqual(course_fault(value), index, value)
        self.assertEqual(course_fault(value=value), index)
        if index is not None:
            self.assertIs(type(course_fault(value)), int)
        self.assertIs(is_course(value), index is None)
        self.assertIs(is_course(value=value), index is None)
        self.assertEqual(repr(value), before)

    def test_courses(self):
        for course in courses():
            self.check(course, None)
            for index in range(1, len(course)):
                self.check(course[:index] + course[index + 1:], None)
                self.check(course[:index], None)
        for square in (0, 1, Fraction(7, 3), 10 ** 89):
            self.check(course_of((0, square)), None)
        self.check(course_of((0, 0), (1, 0), (2, 0)), None)
        self.check(some_course(random.Random(2), 200), None)
        for program, limits in some_programs(3, 10):
            self.check(greatest(program, limits), None)

    def test_nearly_courses(self):
        for course in courses():
            for value, index in wrong_courses(course):
                self.check(value, index)

    def test_ways_and_squares_that_are_none(self):
        for value in NOT_FRACTIONS:
            for index in range(len(COURSE)):
                self.check(with_member(COURSE, index, (value, COURSE[index][1])), index)
        for value in NOT_FROM_NOUGHT:
            for index in range(len(COURSE)):
                self.check(with_member(COURSE, index, (COURSE[index][0], value)), index)

    def test_one_member(self):
        self.check((((1, 1), (0, 1)),), 0)
        self.check((((-1, 1), (0, 1)),), 0)
        self.check((((0, 1), (-1, 1)),), 0)
        self.check((((0, Whole(1)), (1, 1)),), 0)

    def test_the_last_of_two_hundred(self):
        course = some_course(random.Random(4), 200)
        self.check(with_member(course, 199, (course[198][0], (1, 1))), 199)
        self.check(with_member(course, 199, (course[199][0], (-1, 1))), 199)
        self.check(course + (None,), 200)

    def test_any_value(self):
        for value in ODD_VALUES + NOT_FRACTIONS:
            self.check(value, 0)


class TestInvalidCourse(unittest.TestCase):
    """Each call that takes a course refuses what is none, with its index."""

    def test_all_calls(self):
        way = (1, 1)
        calls = [
            lambda value: judged(PROGRAM, LIMITS, value), lambda value: square_at(value, way),
            lambda value: is_below(value, COURSE), lambda value: is_below(COURSE, value),
            lambda value: exact_time(value, way, way), lambda value: told_time(value, way, way, 3),
            lambda value: sooner(value, COURSE), lambda value: sooner(COURSE, value),
            lambda value: is_by(value, way, way), lambda value: pace(value, way, 3),
        ]
        for value, index in list(wrong_courses(COURSE)) + [(value, 0) for value in ODD_VALUES]:
            for call in calls:
                with self.assertRaises(InvalidCourse) as caught:
                    call(value)
                self.assertEqual(caught.exception.index, index)
                self.assertIs(type(caught.exception.index), int)


if __name__ == "__main__":
    unittest.main()
