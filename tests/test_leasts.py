"""Point [10], fact L: sums, what bars a least, and whether some course keeps a program."""

import copy
import random
import unittest
from fractions import Fraction

from fastestalong.courses import greatest, judged, square_at
from fastestalong.errors import InvalidLimits, InvalidProgram
from fastestalong.leasts import bar, can_keep, sums
from fastestalong.moves import caps, ways
from oracles import Road
from samples import (
    LIMITS, PROGRAM, number, pair, pairs, some_limits, some_number, some_program, some_programs, with_member, with_part,
)

TINY = Fraction(1, 10 ** 14)


def sums_told(road):
    """The rows (way, other way, sum) as the document says them."""
    told = []
    for move, least in enumerate(road.leasts):
        if least == 0:
            continue
        begin, end = road.ways[move], road.ways[move + 1]
        told.append((begin, begin, road.caps[move] - least))
        for joint, cap in zip(road.ways, road.joint_caps):
            near = begin if joint <= begin else end
            told.append((joint, near, cap + road.swing(joint, near) - least))
    return told


def bar_told(rows):
    below = [(abs(way - other), way, other) for way, other, told in rows if told < 0]
    return min(below)[1:] if below else None


def straight(*steps):
    """A program along one axis: (number, feed, least, stop) of each step, from 0 on."""
    return (pairs((0,)), tuple((pairs((to,)), pair(feed), pair(least), stop) for to, feed, least, stop in steps))


AXIS = (pairs((9, 1, 1)),)


class TestSums(unittest.TestCase):
    def check(self, program, limits):
        before = copy.deepcopy((program, limits))
        rows = sums_told(Road(program, limits))
        self.assertEqual(sums(program, limits), tuple(pairs(row) for row in rows))
        self.assertEqual(sums(limits=limits, program=program), sums(program, limits))
        told = bar_told(rows)
        self.assertEqual(bar(program, limits), None if told is None else pairs(told))
        self.assertEqual(bar(limits=limits, program=program), bar(program, limits))
        self.assertIs(can_keep(program, limits), told is None)
        self.assertIs(can_keep(limits=limits, program=program), told is None)
        self.assertIs(judged(program, limits, greatest(program, limits)) is None, told is None)
        self.assertEqual((program, limits), before)
        return told

    def test_of_any_kind(self):
        seen = set()
        for program, limits in some_programs(1, 150):
            seen.add(self.check(program, limits) is None)
        self.assertEqual(seen, {True, False})

    def test_thirty_moves_on_three_axes_with_leasts_everywhere(self):
        chance = random.Random(2)
        program = some_program(chance, 3, 30)
        for index in range(30):
            program = with_part(program, index, 2, program[1][index][1])
        self.assertEqual(len(sums(program, some_limits(chance, 3))), 30 * 32)
        self.check(program, some_limits(chance, 3))

    def test_leasts_that_the_greatest_course_just_keeps(self):
        # A root that is a fraction is rare, so the jumps are made to give it.
        for jump, least, told in (
            (3, 3, None), (3, 3 + TINY, (10, 10)), (3, 3 - TINY, None), (2, 3, (10, 10)), (4, 3, None),
        ):
            program = (pairs((0, 0)), (
                (pairs((10, 0)), (9, 1), (0, 1), False), (pairs((10, 10)), (9, 1), pair(least), False),
                (pairs((20, 10)), (9, 1), (0, 1), False),
            ))
            limits = (pairs((9, 1, jump)), pairs((9, 1, 9)))
            self.assertEqual(self.check(program, limits), told)

    def test_no_leasts(self):
        program = straight((4, 2, 0, False), (8, 3, 0, True), (9, 1, 0, False))
        self.assertEqual(sums(program, AXIS), ())
        self.assertIsNone(self.check(program, AXIS))

    def test_leasts_at_the_start_and_at_the_end(self):
        self.assertEqual(self.check(straight((4, 2, TINY, False), (8, 3, 0, False)), AXIS), (0, 0))
        self.assertEqual(self.check(straight((4, 2, 0, False), (8, 3, TINY, False)), AXIS), (8, 8))
        self.assertEqual(self.check(straight((4, 2, 2, False)), AXIS), (0, 0))

    def test_leasts_at_stops(self):
        for first, second, told in ((0, 1, (10, 10)), (1, 0, (10, 10)), (1, 1, (10, 10)), (0, 0, None)):
            steps = [(5, 3, 0, False), (10, 3, first, True), (15, 3, second, False), (20, 3, 0, False)]
            self.assertEqual(self.check(straight(*steps), AXIS), told)

    def test_leasts_as_great_as_the_feed(self):
        steps = [(5, 3, 0, False), (10, 3, 3, False), (15, 3, 0, False)]
        self.assertIsNone(self.check(straight(*steps), AXIS))
        steps = [(5, 3, 0, False), (10, 3, 3, False), (13, 3, 0, False)]
        self.assertEqual(self.check(straight(*steps), AXIS), (13, 10))
        steps = [(4, 3, 0, False), (10, 3, 3, False), (15, 3, 0, False)]
        self.assertEqual(self.check(straight(*steps), AXIS), (0, 4))

    def test_a_least_above_the_speed_of_the_axis(self):
        slow = (pairs((2, 1, 1)),)
        for least, told in ((2, None), (2 + TINY, (5, 5)), (3, (5, 5))):
            self.assertEqual(self.check(straight((5, 3, 0, False), (10, 3, least, False), (15, 3, 0, False)), slow), told)

    def test_sums_of_just_nought_and_a_little_below(self):
        # The square at 9/2 is 9, twice the way; the least of the move behind it is 3.
        for way, told in ((Fraction(9, 2), None), (Fraction(9, 2) - TINY / 3, "bar"), (Fraction(9, 2) + TINY, None)):
            program = straight((way, 4, 0, False), (30, 4, 3, False), (40, 4, 0, False))
            expected = None if told is None else (0, way)
            self.assertEqual(self.check(program, AXIS), expected)
            lowest = min(number(row[2]) for row in sums(program, AXIS))
            self.assertEqual(lowest, min(2 * way - 9, Fraction(7)))

    def test_sums_hang_on_joint_caps_not_on_the_course(self):
        program = straight((4, 3, 0, False), (8, 1, 1, False), (12, 3, 0, False))
        self.assertEqual(sums(program, AXIS), tuple(pairs(row) for row in (
            (4, 4, 0), (0, 4, 7), (4, 4, 0), (8, 8, 0), (12, 8, 7),
        )))
        self.assertIsNone(self.check(program, AXIS))


class TestBar(unittest.TestCase):
    def check(self, program, limits, told):
        self.assertEqual(bar(program, limits), None if told is None else pairs(told))
        rows = bar_told(sums_told(Road(program, limits)))
        self.assertEqual(rows, told)

    def test_the_nearest_two_ways(self):
        # Too short from both sides: 3 ahead, 4 behind; then the other way round.
        self.check(straight((3, 4, 0, False), (30, 4, 4, False), (34, 4, 0, False)), AXIS, (0, 3))
        self.check(straight((4, 4, 0, False), (30, 4, 4, False), (33, 4, 0, False)), AXIS, (33, 30))

    def test_of_these_the_smallest_way(self):
        self.check(straight((4, 4, 0, False), (30, 4, 4, False), (34, 4, 0, False)), AXIS, (0, 4))
        steps = [(5, 2, 0, True), (8, 4, 0, False), (30, 4, 4, False), (35, 4, 0, False), (38, 1, 0, True)]
        self.check(straight(*steps), AXIS, (5, 8))

    def test_of_these_the_smallest_other_way(self):
        # A stop at 10 is as far from the move that ends at 7 as from the one that begins at 13.
        steps = [
            (2, 5, 0, False), (7, 5, Fraction(5, 2), False), (10, 5, 0, True), (13, 5, 0, False),
            (18, 5, Fraction(5, 2), False), (20, 5, 0, False),
        ]
        wide = [(20, 5, 0, False)] + [(to + 20, feed, least, stop) for to, feed, least, stop in steps[1:5]]
        wide.append((60, 5, 0, False))
        self.check(straight(*wide), AXIS, (30, 27))

    def test_of_several_sums_of_one_move(self):
        steps = [(1, 5, 0, True), (2, 5, 0, False), (3, 5, 3, False), (4, 5, 0, False), (20, 5, 0, False)]
        self.check(straight(*steps), AXIS, (1, 2))

    def test_the_move_alone_and_a_joint_at_its_beginning(self):
        slow = (pairs((2, 1, 1)),)
        self.check(straight((9, 5, 0, False), (20, 5, 3, False), (40, 5, 0, False)), slow, (9, 9))

    def test_all_moves_bar(self):
        steps = [(k, 9, 9, True) for k in range(1, 31)]
        self.check(straight(*steps), AXIS, (0, 0))


class TestFactL(unittest.TestCase):
    def test_lower_leasts_are_kept_too(self):
        for program, limits in some_programs(3, 60):
            told = can_keep(program, limits)
            for index in range(len(program[1])):
                lower = with_part(program, index, 2, pair(number(program[1][index][2]) / 2))
                self.assertLessEqual(told, can_keep(lower, limits))

    def test_leasts_up_to_the_course(self):
        chance = random.Random(4)
        for program, limits in some_programs(5, 40):
            program = (program[0], tuple(step[:2] + ((0, 1),) + step[3:] for step in program[1]))
            course, joints = greatest(program, limits), ways(program)
            for index in range(len(program[1])):
                low = min(number(square_at(course, joints[index])), number(square_at(course, joints[index + 1])))
                for _ in range(3):
                    least = some_number(chance, 0, 5)
                    if 0 < least <= number(program[1][index][1]):
                        told = can_keep(with_part(program, index, 2, pair(least)), limits)
                        self.assertIs(told, least ** 2 <= low and least ** 2 <= number(caps(program, limits)[index]))


class TestWrongInputs(unittest.TestCase):
    def test_programs_and_limits(self):
        for call in (sums, bar, can_keep):
            with self.assertRaises(InvalidProgram) as caught:
                call(with_part(PROGRAM, 1, 2, (4, 1)), None)
            self.assertEqual(caught.exception.place, (1, 1, 2))
            with self.assertRaises(InvalidLimits) as caught:
                call(PROGRAM, with_member(LIMITS, 1, None))
            self.assertEqual(caught.exception.index, 1)


if __name__ == "__main__":
    unittest.main()
