"""Point [11], fact A: courses of a tool that knows the next moves alone."""

import copy
import random
import unittest
from fractions import Fraction

from fastestalong.ahead import ahead, enough, slower
from fastestalong.courses import greatest, is_below, judged, square_at
from fastestalong.errors import InvalidCount, InvalidLimits, InvalidProgram
from fastestalong.moves import swings, ways
from oracles import Road, numbers, square_on
from samples import (
    LIMITS, ODD_VALUES, PROGRAM, course_of, number, pair, pairs, some_limits, some_program, some_programs, with_member,
    with_part,
)

AXIS = (pairs((9, 1, 1)),)


def straight(*steps):
    """A program along one axis: (number, feed, stop) of each step, from 0 on."""
    return (pairs((0,)), tuple((pairs((to,)), pair(feed), (0, 1), stop) for to, feed, stop in steps))


def stretches(course, other):
    """Where a course is below the other one, as pairs of numbers."""
    one, two = numbers(course), numbers(other)
    marks = sorted({way for way, _ in one + two})
    apart = [square_on(two, way) - square_on(one, way) for way in marks]
    told = []
    for low, high, begin, end in zip(marks, marks[1:], apart, apart[1:]):
        if begin or end:
            if begin and told and told[-1][1] == low:
                told[-1] = (told[-1][0], high)
            else:
                told.append((low, high))
    return told


class TestAhead(unittest.TestCase):
    def check(self, program, limits, known):
        before = copy.deepcopy((program, limits))
        road = Road(program, limits)
        bounds = road.stop_bounds(known)
        course = ahead(program, limits, known)
        self.assertEqual(course, course_of(*road.bends(bounds)))
        self.assertEqual(course, ahead(known=known, limits=limits, program=program))
        told = stretches(course, greatest(program, limits))
        self.assertEqual(slower(program, limits, known), tuple(pairs(row) for row in told))
        self.assertEqual(slower(known=known, limits=limits, program=program), slower(program, limits, known))
        self.assertEqual((program, limits), before)
        return course

    def test_of_any_kind(self):
        for program, limits in some_programs(1, 40):
            for known in sorted({1, 2, 3, 5, len(program[1]), len(program[1]) + 1, 29, 30}):
                if known <= 30:
                    self.check(program, limits, known)

    def test_thirty_moves_on_three_axes(self):
        chance = random.Random(2)
        program, limits = some_program(chance, 3, 30), some_limits(chance, 3)
        limits = tuple((speed, pair(number(rate) / 50), (9, 1)) for speed, rate, _ in limits)
        for known in (1, 2, 4, 9, 15, 29, 30):
            self.check(program, limits, known)

    def test_as_all_moves_are_known(self):
        for program, limits in some_programs(3, 40):
            moves = len(program[1])
            for known in {moves, min(moves + 1, 30), 30}:
                self.assertEqual(ahead(program, limits, known), greatest(program, limits))
                self.assertEqual(slower(program, limits, known), ())

    def test_with_one_known_it_stands_at_each_joint(self):
        for program, limits in some_programs(4, 40):
            course = ahead(program, limits, 1)
            for way in ways(program):
                self.assertEqual(square_at(course, way), (0, 1))

    def test_with_more_known_it_is_nowhere_less(self):
        for program, limits in some_programs(5, 30):
            told = [ahead(program, limits, known) for known in (1, 2, 3, 4, 8, 30)]
            for one, other in zip(told, told[1:] + [greatest(program, limits)]):
                self.assertTrue(is_below(one, other))

    def test_it_keeps_the_program_leasts_aside(self):
        for program, limits in some_programs(6, 30):
            free = (program[0], tuple(step[:2] + ((0, 1),) + step[3:] for step in program[1]))
            for known in (1, 2, 5):
                self.assertIsNone(judged(free, limits, ahead(program, limits, known)))
                self.assertEqual(ahead(free, limits, known), ahead(program, limits, known))

    def test_what_comes_behind_the_known_moves_changes_nothing(self):
        chance = random.Random(7)
        for _ in range(40):
            axes, moves = chance.randint(1, 3), chance.randint(3, 9)
            program, limits = some_program(chance, axes, moves), some_limits(chance, axes)
            known, kept = chance.randint(1, moves - 1), chance.randint(1, moves)
            other = (program[0], program[1][:kept] + some_program(chance, axes, chance.randint(1, 5))[1])
            points = [other[0]] + [step[0] for step in other[1]]
            if points[kept] == points[kept + 1]:
                continue
            # In these moves the tool knows nothing behind the moves that both programs have.
            same = kept - known + 1
            one, two = ahead(program, limits, known), ahead(other, limits, known)
            road = Road(program, limits)
            for index in range(max(same, 0)):
                low, high = road.ways[index], road.ways[index + 1]
                some = [low, (low + high) / 2, low + (high - low) / 9, high]
                some += [way for way, _ in numbers(one) + numbers(two) if low <= way <= high]
                for way in some:
                    self.assertEqual(square_at(one, pair(way)), square_at(two, pair(way)))

    def test_where_it_is_below_the_greatest(self):
        # Fact A: exactly where a stop cap led to the way is below all caps and turn caps led there.
        for program, limits in some_programs(8, 25):
            road = Road(program, limits)
            for known in (1, 2, 3):
                course, stops = numbers(ahead(program, limits, known)), []
                for joint in range(1, len(road.caps)):
                    if len(road.caps) - joint > known - 1:
                        end = road.ways[joint + known - 1]
                        stops.append((road.ways[joint], road.swing(road.ways[joint], end)))
                for way in road.ways + [(low + high) / 2 for low, high in zip(road.ways, road.ways[1:])]:
                    led = min([cap + road.swing(at, way) for at, cap in stops], default=None)
                    is_slower = led is not None and led < road.greatest_at(way)
                    self.assertIs(square_on(course, way) < road.greatest_at(way), is_slower)


class TestByHand(unittest.TestCase):
    PROGRAM = straight((4, 3, False), (8, 3, False), (12, 3, False), (16, 3, False))

    def check(self, known, *rows):
        self.assertEqual(ahead(self.PROGRAM, AXIS, known), course_of(*rows))

    def test_squares(self):
        self.check(1, (0, 0), (2, 4), (4, 0), (6, 4), (8, 0), (10, 4), (12, 0), (14, 4), (16, 0))
        self.check(3, (0, 0), (Fraction(9, 2), 9), (Fraction(23, 2), 9), (16, 0))
        self.check(4, (0, 0), (Fraction(9, 2), 9), (Fraction(23, 2), 9), (16, 0))

    def test_two_known(self):
        # At each joint the square may be 8, the change along one move; it comes to 9 between them.
        half = Fraction(1, 2)
        self.check(2, (0, 0), (4 + half, 9), (8 - half, 9), (8, 8), (8 + half, 9), (12 - half, 9), (16, 0))

    def test_slower(self):
        self.assertEqual(slower(self.PROGRAM, AXIS, 1), (pairs((2, 14)),))
        half = Fraction(1, 2)
        self.assertEqual(slower(self.PROGRAM, AXIS, 2), (pairs((8 - half, 8 + half)),))
        self.assertEqual(slower(self.PROGRAM, AXIS, 3), ())
        self.assertEqual(enough(self.PROGRAM, AXIS), 3)

    def test_two_stretches_that_meet(self):
        # Both courses stand at the stop, and are the same a little ahead of it and behind it, too.
        program = straight((5, 3, False), (10, 3, True), (15, 3, False), (20, 3, False))
        self.assertEqual(slower(program, AXIS, 1), tuple(pairs(row) for row in (
            (Fraction(5, 2), Fraction(15, 2)), (Fraction(25, 2), Fraction(35, 2)),
        )))
        program = straight((2, 3, False), (4, 3, True), (6, 3, False), (8, 3, False))
        self.assertEqual(slower(program, AXIS, 1), tuple(pairs(row) for row in ((1, 3), (5, 7))))

    def test_two_stretches_that_meet_at_one_way(self):
        # With one known it stands at 4 and 8, and comes up to the greatest course at 6 alone: the cap there is 4.
        program = straight((4, 2, False), (8, 2, False), (12, 2, False))
        self.assertEqual(ahead(program, AXIS, 1), course_of((0, 0), (2, 4), (4, 0), (6, 4), (8, 0), (10, 4), (12, 0)))
        self.assertEqual(slower(program, AXIS, 1), (pairs((2, 6)), pairs((6, 10))))

    def test_a_turn_cap_above_and_below_the_stop_cap(self):
        for jump, told in ((3, 8), (4, 8), (2, 4), (0, 0)):
            program = (pairs((0, 0)), tuple(
                (pairs(point), (9, 1), (0, 1), False) for point in ((9, 0), (9, 4), (18, 4))
            ))
            limits = (pairs((9, 1, jump)), pairs((9, 1, 9)))
            self.assertEqual(square_at(ahead(program, limits, 2), (9, 1)), pair(told))

    def test_pulls_of_the_moves_behind(self):
        program = (pairs((0, 0)), tuple(
            (pairs(point), (99, 1), (0, 1), False) for point in ((100, 0), (100, 2), (103, 2), (200, 2))
        ))
        limits = (pairs((99, 1, 99)), pairs((99, 5, 99)))
        self.assertEqual(swings(program, limits), [(200, 1), (20, 1), (6, 1), (194, 1)])
        for known, told in ((1, 0), (2, 20), (3, 26), (4, 200)):
            self.assertEqual(square_at(ahead(program, limits, known), (100, 1)), pair(told))
        self.assertEqual(enough(program, limits), 4)


class TestEnough(unittest.TestCase):
    def check(self, program, limits):
        before = copy.deepcopy((program, limits))
        course = greatest(program, limits)
        known = 1
        while ahead(program, limits, known) != course:
            known += 1
        self.assertEqual(enough(program, limits), known)
        self.assertEqual(enough(limits=limits, program=program), known)
        self.assertIs(type(enough(program, limits)), int)
        self.assertLessEqual(known, len(program[1]))
        self.assertEqual((program, limits), before)
        return known

    def test_of_any_kind(self):
        seen = set()
        for program, limits in some_programs(9, 60):
            seen.add(self.check(program, limits))
        self.assertGreaterEqual(len(seen), 3)

    def test_of_many_short_moves(self):
        for rate in (1, Fraction(1, 3), Fraction(9, 2), 50):
            program = straight(*[(k, 4, k == 17) for k in range(1, 31)])
            self.check(program, (pairs((9, rate, 1)),))
        program = straight(*[(k, 99, False) for k in range(1, 31)])
        self.assertEqual(self.check(program, AXIS), 16)

    def test_just_enough(self):
        # The square is 8 at 4, and 8 is just the change along the move behind it.
        self.assertEqual(self.check(straight((4, 9, False), (8, 9, False)), AXIS), 2)
        self.assertEqual(self.check(straight((4, 9, False), (8, 9, False), (12, 2, False)), AXIS), 2)
        nearly = straight((4, 9, False), (8 - Fraction(1, 10 ** 20), 9, False), (99, 9, False))
        self.assertEqual(self.check(nearly, AXIS), 3)
        self.assertEqual(self.check(straight((4, 9, False), (8, 9, False), (99, 9, False)), AXIS), 2)

    def test_one_is_enough(self):
        self.assertEqual(self.check(straight((4, 9, False)), AXIS), 1)
        self.assertEqual(self.check(straight((4, 9, True), (6, 9, True), (7, 9, True)), AXIS), 1)


class TestWrongInputs(unittest.TestCase):
    def test_known(self):
        wrong = [value for value in ODD_VALUES if not (type(value) is int and 1 <= value <= 30)]
        for value in wrong + [0, 31, -1, True, False, (3, 1), "3", 10 ** 20]:
            for call in (ahead, slower):
                with self.assertRaises(InvalidCount):
                    call(PROGRAM, LIMITS, value)
                with self.assertRaises(InvalidCount):
                    call(known=value, limits=LIMITS, program=PROGRAM)

    def test_all_counts_that_are_let(self):
        for known in range(1, 31):
            self.assertEqual(ahead(PROGRAM, LIMITS, known)[-1], ((7, 1), (0, 1)))
            self.assertIs(type(slower(PROGRAM, LIMITS, known)), tuple)

    def test_programs_and_limits_go_ahead(self):
        for call in (ahead, slower):
            with self.assertRaises(InvalidProgram) as caught:
                call(with_part(PROGRAM, 1, 3, 1), None, None)
            self.assertEqual(caught.exception.place, (1, 1, 3))
            with self.assertRaises(InvalidLimits) as caught:
                call(PROGRAM, with_member(LIMITS, 1, None), 31)
            self.assertEqual(caught.exception.index, 1)
        with self.assertRaises(InvalidProgram):
            enough(None, None)
        with self.assertRaises(InvalidLimits):
            enough(PROGRAM, LIMITS[:1])


if __name__ == "__main__":
    unittest.main()
