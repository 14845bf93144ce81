"""Point [3]: calls end within some seconds, also of long programs and courses with long fractions."""

import random
import time
import unittest
from fractions import Fraction

from fastestalong.ahead import ahead, enough, slower
from fastestalong.courses import greatest, is_below, judged, square_at
from fastestalong.leasts import bar, can_keep, sums
from fastestalong.times import exact_time, is_by, pace, sooner, told_time
from samples import course_of, pair, pairs, with_part

SECONDS = 20


def long_number(chance, low, high):
    """A fraction from low to high, top and bottom of some hundred digits."""
    bottom = chance.randrange(10 ** 98, 10 ** 99)
    return Fraction(chance.randrange(low * bottom, high * bottom), bottom)


def long_program(chance, fast):
    """Thirty moves on three axes with limits; if fast, the tool goes on rising through many joints."""
    start = pairs(long_number(chance, -9, 9) for _ in range(3))
    low, high = (500, 2000) if fast else (5, 20)
    steps = tuple(
        (pairs(long_number(chance, -9, 9) for _ in range(3)), pair(long_number(chance, low, high)), (0, 1), False)
        for _ in range(30)
    )
    jump = (1000, 2000) if fast else (1, 9)
    limits = tuple(
        pairs((long_number(chance, low, high), long_number(chance, 1, 9), long_number(chance, *jump))) for _ in range(3)
    )
    return (start, steps), limits


class TestLimitsOfUse(unittest.TestCase):
    def timed(self, call, *told):
        begin = time.perf_counter()
        answer = call(*told)
        self.assertLess(time.perf_counter() - begin, SECONDS, call.__name__)
        return answer

    def test_long_programs(self):
        chance = random.Random(1)
        for fast in (False, True):
            program, limits = long_program(chance, fast)
            course = self.timed(greatest, program, limits)
            self.assertIsNone(self.timed(judged, program, limits, course))
            self.assertIs(self.timed(can_keep, program, limits), True)
            wished = program
            for index in range(30):
                wished = with_part(wished, index, 2, wished[1][index][1])
            self.assertEqual(len(self.timed(sums, wished, limits)), 30 * 32)
            self.assertEqual(self.timed(bar, wished, limits), ((0, 1), (0, 1)))
            known = self.timed(enough, program, limits)
            self.assertEqual(self.timed(ahead, program, limits, known), course)
            self.assertNotEqual(self.timed(slower, program, limits, known - 1), ())
            self.assertIs(self.timed(is_below, self.timed(ahead, program, limits, 1), course), True)

    def test_times_of_their_courses(self):
        chance = random.Random(2)
        program, limits = long_program(chance, True)
        course, short = greatest(program, limits), ahead(program, limits, 2)
        last = course[-1][0]
        self.assertIsNone(self.timed(exact_time, course, (0, 1), last))
        told = self.timed(told_time, course, (0, 1), last, 30)
        self.assertIs(self.timed(is_by, course, last, told), False)
        self.assertEqual(self.timed(sooner, course, short), -1)
        self.assertEqual(self.timed(sooner, course, course), 0)
        self.assertEqual(self.timed(square_at, course, course[1][0]), course[1][1])
        self.timed(pace, course, course[1][0], 30)

    def test_courses_of_two_hundred_members(self):
        chance = random.Random(3)
        rows, at = [], Fraction(0)
        for _ in range(200):
            rows.append((at, long_number(chance, 1, 9)))
            at = Fraction(chance.randrange(1, 10 ** 9), 10 ** 9) + at
        course = course_of(*rows)
        raised = course_of(*[(way, square + Fraction(1, 10 ** 90)) for way, square in rows])
        self.assertEqual(self.timed(sooner, raised, course), -1)
        self.assertIs(self.timed(is_below, course, raised), True)
        self.assertIs(self.timed(is_below, raised, course), False)
        self.assertIsNone(self.timed(exact_time, course, (0, 1), course[-1][0]))
        told = self.timed(told_time, course, (0, 1), course[-1][0], 30)
        self.assertIs(self.timed(is_by, course, course[-1][0], told), False)


if __name__ == "__main__":
    unittest.main()
