"""Point [3]: calls end within some seconds, also of long programs and courses with long fractions."""

import random
import time
import unittest
from fractions import Fraction

from fastestalong.ahead import ahead, enough, slower
from fastestalong.alike import alike, plain
from fastestalong.binding import binding, gains
from fastestalong.console import Console
from fastestalong.corners import corners, cut, room, rounded
from fastestalong.courses import greatest, is_below, judged, square_at
from fastestalong.drawn import clock, profile, ribbon, trail
from fastestalong.leasts import bar, can_keep, sums
from fastestalong.moves import whole
from fastestalong.pulses import counts_at, gaps, pulses, pulses_fault
from fastestalong.runs import Run, run_again
from fastestalong.texts import course_text, course_told, limits_text, program_text, program_told, shortest
from fastestalong.times import exact_time, is_by, pace, sooner, told_time
from samples import course_of, number, pair, pairs, with_part

SECONDS = 20


def long_number(chance, low, high):
    """A fraction from low to high, top and bottom of some hundred digits."""
    bottom = chance.randrange(10 ** 98, 10 ** 99)
    return Fraction(chance.randrange(low * bottom, high * bottom), bottom)


def long_program(chance, fast):
    """Thirty moves on three axes with limits; if fast, the tool goes on rising through many joints."""
    start = pairs(long_number(chance, -9, 9) for _ in range(3))
    low, high = (500, 2000) if fast else (5, 20)
    steps = tuple(
        (pairs(long_number(chance, -9, 9) for _ in range(3)), pair(long_number(chance, low, high)), (0, 1), False)
        for _ in range(30)
    )
    jump = (1000, 2000) if fast else (1, 9)
    limits = tuple(
        pairs((long_number(chance, low, high), long_number(chance, 1, 9), long_number(chance, *jump))) for _ in range(3)
    )
    return (start, steps), limits


class TestLimitsOfUse(unittest.TestCase):
    def timed(self, call, *told):
        begin = time.perf_counter()
        answer = call(*told)
        self.assertLess(time.perf_counter() - begin, SECONDS, call.__name__)
        return answer

    def test_long_programs(self):
        chance = random.Random(1)
        for fast in (False, True):
            program, limits = long_program(chance, fast)
            course = self.timed(greatest, program, limits)
            self.assertIsNone(self.timed(judged, program, limits, course))
            self.assertIs(self.timed(can_keep, program, limits), True)
            wished = program
            for index in range(30):
                wished = with_part(wished, index, 2, wished[1][index][1])
            self.assertEqual(len(self.timed(sums, wished, limits)), 30 * 32)
            self.assertEqual(self.timed(bar, wished, limits), ((0, 1), (0, 1)))
            known = self.timed(enough, program, limits)
            self.assertEqual(self.timed(ahead, program, limits, known), course)
            self.assertNotEqual(self.timed(slower, program, limits, known - 1), ())
            self.assertIs(self.timed(is_below, self.timed(ahead, program, limits, 1), course), True)

    def test_times_of_their_courses(self):
        chance = random.Random(2)
        program, limits = long_program(chance, True)
        course, short = greatest(program, limits), ahead(program, limits, 2)
        last = course[-1][0]
        self.assertIsNone(self.timed(exact_time, course, (0, 1), last))
        told = self.timed(told_time, course, (0, 1), last, 30)
        self.assertIs(self.timed(is_by, course, last, told), False)
        self.assertEqual(self.timed(sooner, course, short), -1)
        self.assertEqual(self.timed(sooner, course, course), 0)
        self.assertEqual(self.timed(square_at, course, course[1][0]), course[1][1])
        self.timed(pace, course, course[1][0], 30)

    def test_courses_of_two_hundred_members(self):
        chance = random.Random(3)
        rows, at = [], Fraction(0)
        for _ in range(200):
            rows.append((at, long_number(chance, 1, 9)))
            at = Fraction(chance.randrange(1, 10 ** 9), 10 ** 9) + at
        course = course_of(*rows)
        raised = course_of(*[(way, square + Fraction(1, 10 ** 90)) for way, square in rows])
        self.assertEqual(self.timed(sooner, raised, course), -1)
        self.assertIs(self.timed(is_below, course, raised), True)
        self.assertIs(self.timed(is_below, raised, course), False)
        self.assertIsNone(self.timed(exact_time, course, (0, 1), course[-1][0]))
        told = self.timed(told_time, course, (0, 1), course[-1][0], 30)
        self.assertIs(self.timed(is_by, course, course[-1][0], told), False)

    def test_pulses(self):
        chance = random.Random(4)
        program, _ = long_program(chance, False)
        sizes = pairs(long_number(chance, 1, 2) / 15 for _ in range(3))
        told = self.timed(pulses, program, sizes)
        self.assertGreater(len(told), 4000)
        self.assertIsNone(self.timed(pulses_fault, program, sizes, told))
        self.assertEqual(len(self.timed(gaps, program, sizes)), 3)
        self.assertEqual(len(self.timed(counts_at, program, sizes, told[-1][0])), 3)
        self.timed(counts_at, program, tuple((size[0], size[1] * 10 ** 30 + 1) for size in pairs((2, 3, 5))), whole(program))

    def test_runs_with_a_hundred_orders(self):
        chance = random.Random(5)
        program, limits = long_program(chance, True)
        run, end = Run(program, limits), number(whole(program)) * Fraction(9, 10)
        for part in sorted(long_number(chance, 0, 1) for _ in range(100)):
            way = Fraction(int(end * part * 10 ** 98), 10 ** 98)
            self.timed(run.go, pair(min(way, number(run.stand()))))
            if run.held:
                self.timed(run.go_on)
            elif chance.random() < 0.3:
                self.timed(run.hold)
            else:
                self.timed(run.feed, pair(long_number(chance, 1, 2)))
        self.assertEqual(len(run.journal), 100)
        again = self.timed(run_again, program, limits, run.journal, run.way)
        self.assertEqual(self.timed(again.done), self.timed(run.done))
        self.assertEqual(self.timed(again.rest), self.timed(run.rest))

    def test_corners_and_what_binds(self):
        chance = random.Random(6)
        for fast in (False, True):
            program, limits = long_program(chance, fast)
            less = (program[0], program[1][:29])
            self.assertEqual(self.timed(corners, program), tuple(range(29)))
            self.assertEqual(len(self.timed(cut, less, 7, self.timed(room, program, 7, (1, 9)))[1]), 30)
            self.assertEqual(len(self.timed(rounded, (program[0], program[1][:15]), (1, 9))[1]), 29)
            self.assertEqual(self.timed(plain, program), program)
            self.assertEqual(self.timed(alike, program, program), ("yes",))
            self.assertEqual(self.timed(alike, program, with_part(program, 28, 3, True))[:2], ("no", "course"))
            self.assertGreater(len(self.timed(binding, program, limits)), 29)
            for axis in range(3):
                self.timed(gains, program, limits, axis)

    def test_texts_and_pictures(self):
        chance = random.Random(7)
        program, limits = long_program(chance, False)
        for call in (program_text, shortest):
            self.assertEqual(self.timed(program_told, self.timed(call, program)), program)
        course = self.timed(greatest, program, limits)
        self.assertEqual(self.timed(course_told, self.timed(course_text, course)), course)
        for call, told in (
            (profile, (course, 120, 60)), (ribbon, (program, limits, course, 120)), (clock, (course, 120)),
            (trail, (program, 120, 60)),
        ):
            self.timed(call, *told)
        rows = [(Fraction(0), Fraction(1))]
        rows += [(way, long_number(chance, 1, 9)) for way in sorted(long_number(chance, 0, 50) for _ in range(199))]
        many = course_of(*rows)
        self.timed(clock, many, 120)
        self.timed(profile, many, 120, 60)

    def test_the_console(self):
        program, limits = long_program(random.Random(8), True)
        desk = Console()
        for command in (
            "program\n" + program_text(program), "limits\n" + limits_text(limits), "go 1", "feed 1/3", "go 5", "hold",
            "here", "stand", "done", "rest", "journal", "text", "greatest", "bar", "time 30", "profile 120 60", "again 1",
        ):
            self.timed(desk.execute, command)


if __name__ == "__main__":
    unittest.main()
