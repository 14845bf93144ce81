"""Point [19]: pictures in signs."""

import copy
import random
import unittest
from fractions import Fraction
from math import floor

from fastestalong.ahead import ahead
from fastestalong.courses import greatest
from fastestalong.drawn import clock, profile, ribbon, trail
from fastestalong.errors import InvalidCount, InvalidCourse, InvalidLimits, InvalidPart, InvalidProgram, Refused
from fastestalong.programs import grown, moved
from fastestalong.times import exact_time, told_time
from oracles import Road, nearly_time, numbers, square_on
from samples import (
    COURSE, LIMITS, ODD_VALUES, PROGRAM, course_of, line_program, number, pair, pairs, some_course, some_number,
    some_program, some_programs, with_member,
)

SIZES = [(1, 1), (120, 60), (120, 1), (1, 60), (7, 5), (12, 3), (40, 10)]
NOT_WIDE = [value for value in ODD_VALUES if type(value) is not int or value not in (1, 7)] + [0, -1, 121, 10 ** 80]
NOT_TALL = [value for value in ODD_VALUES if type(value) is not int or value not in (1, 7)] + [0, -1, 61, 120]


def middles(end, wide):
    return [end * (2 * column + 1) / (2 * wide) for column in range(wide)]


def profile_of(course, wide, tall):
    rows = numbers(course)
    most = max(square for _, square in rows)
    columns = []
    for way in middles(rows[-1][0], wide):
        level = tall * square_on(rows, way) / most if most else Fraction(0)
        column = ""
        for row in range(tall):
            column += "#" if level >= row + 1 else "+" if row < level < row + 1 else "."
        columns.append(column)
    return tuple("".join(column[row] for column in columns) for row in reversed(range(tall)))


def ribbon_of(program, limits, course, wide):
    road, rows = Road(program, limits), numbers(course)
    told = ""
    for way in middles(road.ways[-1], wide):
        move = max(index for index in range(len(road.caps)) if road.ways[index] <= way)
        line = max(index for index in range(len(rows) - 1) if rows[index][0] <= way)
        square, rise = square_on(rows, way), rows[line + 1][1] - rows[line][1]
        if square > road.caps[move]:
            told += "!"
        elif rise:
            told += ">" if rise > 0 else "<"
        else:
            told += "#" if square == road.caps[move] else "="
    return told


def clock_of(course, wide):
    """The signs by times to some 200 places, or exactly where one is a fraction."""
    end, times = number(course[-1][0]), []
    for column in range(wide + 1):
        way = end * column / wide
        exact = exact_time(course, (0, 1), pair(way)) if end else (0, 1)
        times.append(floor(number(exact) if exact else nearly_time(course, Fraction(0), way)))
    return "".join("|" if behind > before else "-" for before, behind in zip(times, times[1:]))


def trail_of(program, wide, tall):
    points = [[number(part) for part in program[0]]] + [[number(part) for part in step[0]] for step in program[1]]
    flat = [(point + [Fraction(0)])[:2] for point in points]
    between = [[(one + other) / 2 for one, other in zip(begin, end)] for begin, end in zip(flat, flat[1:])]
    bounds = []
    for axis, cells in ((0, wide), (1, tall)):
        low, high = min(point[axis] for point in flat), max(point[axis] for point in flat)
        high = low + 1 if low == high else high
        bounds.append([low + (high - low) * cell / cells for cell in range(cells + 1)])

    def cell(point):
        told = []
        for part, edges in zip(point, bounds):
            told.append(max(index for index in range(len(edges) - 1) if edges[index] <= part))
        return tuple(told)

    signs = {}
    for sign, these in (("+", between), ("*", flat[1:]), ("o", flat[:1])):
        for point in these:
            signs[cell(point)] = sign
    return tuple("".join(signs.get((x, y), ".") for x in range(wide)) for y in reversed(range(tall)))


class TestProfile(unittest.TestCase):
    def check(self, course, wide, tall):
        before = copy.deepcopy(course)
        told = profile(course, wide, tall)
        self.assertEqual(told, profile_of(course, wide, tall))
        self.assertEqual(told, profile(tall=tall, wide=wide, course=course))
        self.assertEqual(course, before)
        self.assertIs(type(told), tuple)
        self.assertEqual({len(row) for row in told}, {wide})

    def test_of_any_kind(self):
        chance = random.Random(1)
        for many in (1, 2, 3, 10, 200):
            for wide, tall in SIZES:
                self.check(some_course(chance, many), wide, tall)
                whole = pairs((0, 3))
                self.check(((whole[0], whole[1]),) if many == 1 else some_course(chance, many, 6), wide, tall)

    def test_squares_all_0(self):
        for course in (course_of((0, 0)), course_of((0, 0), (5, 0)), course_of((0, 0), (1, 0), (2, 0))):
            self.assertEqual(profile(course, 4, 2), ("....", "...."))

    def test_the_whole_0(self):
        self.assertEqual(profile(course_of((0, 5)), 3, 2), ("###", "###"))

    def test_levels_that_are_whole_numbers(self):
        # Middles at 1, 3, 5, 7: levels 1, 3, 3, 1 of 4, where the greatest square is between two middles.
        course = course_of((0, 0), (4, 4), (8, 0))
        self.assertEqual(profile(course, 4, 4), ("....", ".##.", ".##.", "####"))
        self.assertEqual(profile(course, 4, 2), (".++.", "+##+"))
        self.assertEqual(profile(course, 4, 1), ("++++",))
        self.assertEqual(profile(course_of((0, 3), (8, 3)), 2, 3), ("##", "##", "##"))

    def test_of_greatest_courses(self):
        for program, limits in some_programs(2, 20):
            self.check(greatest(program, limits), 60, 12)

    def test_errors(self):
        for wide in NOT_WIDE:
            for tall in (3, 0):
                with self.assertRaises(InvalidCount):
                    profile(COURSE, wide, tall)
        for tall in NOT_TALL:
            with self.assertRaises(InvalidCount):
                profile(COURSE, 3, tall)
        with self.assertRaises(InvalidCourse) as caught:
            profile(COURSE + COURSE[-1:], 0, 0)
        self.assertEqual(caught.exception.index, len(COURSE))


class TestRibbon(unittest.TestCase):
    def check(self, program, limits, course, wide):
        before = copy.deepcopy((program, limits, course))
        told = ribbon(program, limits, course, wide)
        self.assertEqual(told, ribbon_of(program, limits, course, wide))
        self.assertEqual(told, ribbon(wide=wide, course=course, limits=limits, program=program))
        self.assertEqual((program, limits, course), before)
        return told

    def test_of_any_kind(self):
        chance, signs = random.Random(3), ""
        for program, limits in some_programs(3, 40):
            course = greatest(program, limits)
            for wide in (1, 2, 12, 120):
                signs += self.check(program, limits, course, wide)
                signs += self.check(program, limits, ahead(program, limits, 1), wide)
                other = some_course(chance, chance.choice((2, 5, 30)), number(course[-1][0]))
                signs += self.check(program, limits, other, wide)
                end = (course[-1][0], (1, 100))
                signs += self.check(program, limits, (((0, 1), (1, 100)), end), wide)
        self.assertEqual(set(signs), set("!><#="))

    def test_middles_at_joints_and_members(self):
        line = line_program(4)
        limits = (pairs((9, 1, 1)),)
        # The middles of two columns are 1 and 3, those of one is 2.
        course = course_of((0, 1), (1, 1), (2, 4), (3, 4), (4, 0))
        self.assertEqual(self.check(line, limits, course, 2), "><")
        self.assertEqual(self.check(line, limits, course, 1), "#")
        slow = (line[0], line[1][:2] + ((line[1][2][0], (1, 1), (0, 1), False),) + line[1][3:])
        self.assertEqual(self.check(slow, limits, course, 1), "!")
        self.assertEqual(self.check(slow, limits, course_of((0, 1), (2, 1), (4, 1)), 1), "#")
        self.assertEqual(self.check(line, limits, course_of((0, 1), (2, 1), (4, 1)), 1), "=")
        self.assertEqual(self.check(line, limits, course_of((0, 9), (4, 8)), 4), "!!!!")

    def test_a_course_of_another_program(self):
        for course in (COURSE[:-1], course_of((0, 0)), course_of((0, 0), (8, 0)), COURSE + course_of((8, 0))):
            for wide, error in ((5, InvalidPart), (0, InvalidCount), (121, InvalidCount), (True, InvalidCount)):
                with self.assertRaises(error):
                    ribbon(PROGRAM, LIMITS, course, wide)

    def test_errors(self):
        with self.assertRaises(InvalidProgram):
            ribbon(None, None, None, None)
        with self.assertRaises(InvalidLimits):
            ribbon(PROGRAM, LIMITS[:1], None, None)
        with self.assertRaises(InvalidCourse):
            ribbon(PROGRAM, LIMITS, (), None)
        for wide in NOT_WIDE:
            with self.assertRaises(InvalidCount):
                ribbon(PROGRAM, LIMITS, COURSE, wide)


class TestClock(unittest.TestCase):
    def check(self, course, wide):
        before = copy.deepcopy(course)
        told = clock(course, wide)
        self.assertEqual(told, clock_of(course, wide))
        self.assertEqual(told, clock(wide=wide, course=course))
        self.assertEqual(course, before)

    def test_of_any_kind(self):
        chance = random.Random(4)
        for many in (1, 2, 3, 10, 40):
            for wide in (1, 7, 40):
                course = some_course(chance, many)
                self.check(course, wide)
                slow = tuple((way, pair(number(square) / 10 ** 4)) for way, square in course)
                self.check(slow, wide)
                self.check(tuple((way, pair(number(square) * 10 ** 4)) for way, square in course), wide)

    def test_times_that_are_whole_numbers(self):
        steady = course_of((0, 1), (6, 1))
        self.assertEqual([clock(steady, wide) for wide in (6, 12, 3, 4)], ["||||||", "-|-|-|-|-|-|", "|||", "||||"])
        self.assertEqual(clock(course_of((0, 4), (6, 4)), 6), "-|-|-|")
        # To the ways 1, 4 and 9 the times are 2, 4 and 6, to those between twice their roots.
        self.assertEqual(clock(course_of((0, 0), (9, 9)), 9), "|-||--|-|")
        self.check(course_of((0, 2), (3, 2), (6, 8), (9, 8)), 60)
        # The roots of 2 and 3 fall out of the whole's time, which is 2.
        straight = course_of((0, 1), (1, 2), (2, 3), (3, 4))
        self.assertEqual([clock(straight, wide) for wide in (1, 2, 3)], ["|", "||", "-||"])

    def test_the_whole_0(self):
        for square in (0, 1, Fraction(1, 3)):
            self.assertEqual([clock(course_of((0, square)), wide) for wide in (1, 3)], ["-", "---"])

    def test_of_greatest_courses(self):
        for program, limits in some_programs(5, 12):
            self.check(greatest(program, limits), 30)

    def test_where_the_tool_stands(self):
        for rows in (((0, 0), (1, 0)), ((0, 1), (1, 0), (2, 0), (3, 1)), ((0, 1), (1, 0), (1 + Fraction(1, 10 ** 60), 0))):
            for wide in (1, 5, 120):
                with self.assertRaises(Refused):
                    clock(course_of(*rows), wide)
            for wide in (0, 121, None):
                with self.assertRaises(InvalidCount):
                    clock(course_of(*rows), wide)
        self.check(course_of((0, 0), (1, 1), (2, 0), (3, 1), (4, 0)), 4)

    def test_errors(self):
        for wide in NOT_WIDE:
            with self.assertRaises(InvalidCount):
                clock(COURSE, wide)
        with self.assertRaises(InvalidCourse) as caught:
            clock(with_member(COURSE, 2, None), 0)
        self.assertEqual(caught.exception.index, 2)

    def test_ticks_are_counted_by_told_times(self):
        for program, limits in some_programs(6, 10):
            course = greatest(program, limits)
            last = told_time(course, (0, 1), course[-1][0], 0)[0]
            self.assertLessEqual(clock(course, 120).count("|"), last)
            self.assertEqual("|" in clock(course, 1), last > 0)


class TestTrail(unittest.TestCase):
    def check(self, program, wide, tall):
        before = copy.deepcopy(program)
        told = trail(program, wide, tall)
        self.assertEqual(told, trail_of(program, wide, tall))
        self.assertEqual(told, trail(tall=tall, wide=wide, program=program))
        self.assertEqual(program, before)
        return told

    def test_of_any_kind(self):
        chance = random.Random(7)
        for axes in (1, 2, 3):
            for wide, tall in SIZES:
                for _ in range(8):
                    self.check(some_program(chance, axes, chance.choice((1, 2, 5, 30))), wide, tall)

    def through(self, *points):
        return (pairs(points[0]), tuple((pairs(point), (1, 1), (0, 1), False) for point in points[1:]))

    def test_of_one_x_or_one_y_alone(self):
        self.assertEqual(self.check(self.through((2, 5), (2, 9)), 3, 3), ("*..", "+..", "o.."))
        self.assertEqual(self.check(self.through((2, 5), (6, 5)), 3, 3), ("...", "...", "o+*"))
        self.assertEqual(self.check(self.through((2,), (6,)), 3, 2), ("...", "o+*"))
        self.assertEqual(self.check(self.through((2, 5, 0), (2, 5, 1)), 2, 2), ("..", "o."))

    def test_edges_and_points_between_two_cells(self):
        self.assertEqual(self.check(self.through((0, 0), (4, 0), (4, 4), (2, 2), (1, 3)), 4, 4), (
            ".*.*", ".+*+", "....", "o.+*",
        ))
        self.assertEqual(self.check(self.through((0, 0), (2, 2), (1, 1)), 2, 2), (".*", "o."))

    def test_what_stands_ahead(self):
        self.assertEqual(self.check(self.through((0, 0), (4, 0), (0, 0)), 5, 1), ("o.+.*",))
        self.assertEqual(self.check(self.through((0,), (4,), (2,), (0,)), 5, 1), ("o+*+*",))
        self.assertEqual(self.check(self.through((0,), (4,)), 1, 1), ("o",))
        self.assertEqual(self.check(self.through((0,), (4,)), 2, 1), ("o*",))

    def test_errors(self):
        for wide in NOT_WIDE:
            for tall in (3, 0):
                with self.assertRaises(InvalidCount):
                    trail(PROGRAM, wide, tall)
        for tall in NOT_TALL:
            with self.assertRaises(InvalidCount):
                trail(PROGRAM, 3, tall)
        with self.assertRaises(InvalidProgram) as caught:
            trail((PROGRAM[0], ()), None, None)
        self.assertEqual(caught.exception.place, (1,))

    def test_moved_and_grown(self):
        chance = random.Random(8)
        for _ in range(20):
            program = some_program(chance, chance.randint(2, 3))
            shift = pairs(some_number(chance, 1, 9) for _ in program[0])
            self.assertEqual(trail(moved(program, shift), 20, 15), trail(program, 20, 15))
            self.assertEqual(trail(grown(program, (2, 7)), 20, 15), trail(program, 20, 15))


if __name__ == "__main__":
    unittest.main()
