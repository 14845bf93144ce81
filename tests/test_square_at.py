"""Point [9]: the square at a way, and whether one course is below another one."""

import copy
import random
import unittest
from fractions import Fraction

from fastestalong.courses import greatest, is_below, square_at
from fastestalong.errors import InvalidWay, Refused
from oracles import numbers, square_on
from samples import (
    COURSE, NOT_FRACTIONS, course_of, number, pair, some_course, some_number, some_programs, with_member,
)

TINY = Fraction(1, 10 ** 17)


class TestSquareAt(unittest.TestCase):
    def check(self, course, way):
        before = copy.deepcopy(course)
        told = pair(square_on(numbers(course), way))
        self.assertEqual(square_at(course, pair(way)), told)
        self.assertEqual(square_at(way=pair(way), course=course), told)
        self.assertEqual(course, before)

    def test_at_members_and_between(self):
        chance = random.Random(1)
        for many in (2, 3, 7, 40):
            course = some_course(chance, many)
            rows = numbers(course)
            for way, _ in rows:
                self.check(course, way)
            for (low, _), (high, _) in zip(rows, rows[1:]):
                for way in (low + TINY, (low + high) / 2, low + (high - low) * Fraction(3, 7), high - TINY):
                    self.check(course, way)

    def test_one_member(self):
        for square in (0, Fraction(7, 3), 10 ** 89):
            self.check(course_of((0, square)), Fraction(0))

    def test_two_hundred_members(self):
        course = some_course(random.Random(2), 200)
        last = number(course[-1][0])
        for share in (Fraction(0), Fraction(1, 3), Fraction(99, 100), Fraction(1)):
            self.check(course, last * share)

    def test_level_rising_and_falling(self):
        course = course_of((0, 3), (2, 3), (4, 4), (5, 0))
        for way, square in ((1, 3), (3, Fraction(7, 2)), (Fraction(9, 2), 2), (Fraction(19, 4), 1), (5, 0)):
            self.assertEqual(square_at(course, pair(way)), pair(square))

    def test_ways_that_are_none(self):
        last = number(COURSE[-1][0])
        wrong = [(-1, 1), (-1, 10 ** 90), pair(last + 1), pair(last + Fraction(1, 10 ** 90)), (10 ** 90, 1)]
        for way in wrong + NOT_FRACTIONS:
            with self.assertRaises(InvalidWay):
                square_at(COURSE, way)
            with self.assertRaises(InvalidWay):
                square_at(way=way, course=COURSE)
        for way in ((1, 10 ** 90), (-1, 1), (0, 2)):
            with self.assertRaises(InvalidWay):
                square_at(course_of((0, 1)), way)


def is_below_told(course, other):
    one, two = numbers(course), numbers(other)
    ways = {way for way, _ in one + two}
    return all(square_on(one, way) <= square_on(two, way) for way in ways)


class TestIsBelow(unittest.TestCase):
    def check(self, course, other, told):
        before = copy.deepcopy((course, other))
        self.assertIs(is_below(course, other), told)
        self.assertIs(is_below(other_course=other, course=course), told)
        self.assertEqual((course, other), before)

    def test_of_one_last_way(self):
        chance, seen = random.Random(3), set()
        for _ in range(200):
            course = some_course(chance, chance.randint(2, 4), 10)
            other = some_course(chance, chance.randint(2, 4), 10)
            told = is_below_told(course, other)
            seen.add(told)
            self.check(course, other, told)
        self.assertEqual(seen, {True, False})

    def test_itself(self):
        chance = random.Random(4)
        for many in (1, 2, 5, 200):
            course = some_course(chance, many)
            self.check(course, course, True)

    def test_with_members_that_are_no_bends(self):
        chance = random.Random(5)
        for _ in range(40):
            course = some_course(chance, 6)
            last = number(course[-1][0])
            extra = {last * some_number(chance, 0, 20) / 20 for _ in range(9)}
            ways = sorted({number(way) for way, _ in course} | extra)
            fuller = course_of(*[(way, square_on(numbers(course), way)) for way in ways])
            self.check(course, fuller, True)
            self.check(fuller, course, True)
            for index in range(len(fuller)):
                way, square = fuller[index]
                higher = with_member(fuller, index, (way, pair(number(square) + TINY)))
                self.check(higher, course, False)
                self.check(course, higher, True)
                if square[0] > 0:
                    lower = with_member(fuller, index, (way, pair(number(square) * (1 - TINY))))
                    self.check(lower, course, True)
                    self.check(course, lower, False)

    def test_apart_by_little_in_two_hundred_members(self):
        course = some_course(random.Random(6), 200)
        for index in (0, 1, 99, 198, 199):
            way, square = course[index]
            higher = with_member(course, index, (way, pair(number(square) + TINY / 10)))
            self.check(higher, course, False)
            self.check(course, higher, True)

    def test_crossing_between_members(self):
        self.check(course_of((0, 1), (4, 3)), course_of((0, 3), (4, 1)), False)
        self.check(course_of((0, 1), (2, 2), (4, 3)), course_of((0, 1), (4, 3)), True)
        self.check(course_of((0, 0), (2, 5), (4, 0)), course_of((0, 4), (4, 4)), False)
        self.check(course_of((0, 4), (4, 4)), course_of((0, 9), (2, 3), (4, 9)), False)
        self.check(course_of((0, 4), (4, 4)), course_of((0, 9), (2, 4), (4, 9)), True)

    def test_one_member(self):
        self.check(course_of((0, 1)), course_of((0, 1)), True)
        self.check(course_of((0, 1)), course_of((0, 1 + TINY)), True)
        self.check(course_of((0, 1 + TINY)), course_of((0, 1)), False)

    def test_greatest_courses(self):
        for program, limits in some_programs(7, 12):
            course = greatest(program, limits)
            flat = (((0, 1), (0, 1)), (course[-1][0], (0, 1)))
            self.check(flat, course, True)
            self.check(course, flat, False)

    def test_unlike_last_ways(self):
        for other in (COURSE[:-1], course_of((0, 100)), with_member(COURSE, 4, (pair(7 + TINY), (0, 1)))):
            for one, two in ((COURSE, other), (other, COURSE)):
                with self.assertRaises(Refused):
                    is_below(one, two)
                with self.assertRaises(Refused):
                    is_below(other_course=two, course=one)


if __name__ == "__main__":
    unittest.main()
