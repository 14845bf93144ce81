"""Point [9], fact G: the greatest course, and what becomes of it where programs and limits change."""

import copy
import random
import unittest
from fractions import Fraction

from fastestalong.courses import greatest, is_below, judged, square_at
from fastestalong.errors import InvalidLimits, InvalidProgram
from fastestalong.moves import lengths, ways, whole
from fastestalong.programs import backwards, grown, grown_limits, is_limits, is_program, led, led_limits, moved
from oracles import Road, judgement, numbers, square_on
from samples import (
    LIMITS, PROGRAM, course_of, number, pair, pairs, some_limits, some_program, some_programs, with_member, with_part,
)


def without_leasts(program):
    return (program[0], tuple((point, feed, (0, 1), stop) for point, feed, _, stop in program[1]))


def line_of(*rows, start=0):
    """A program along one axis: (number, feed, stop) of each step."""
    return (pairs((start,)), tuple((pairs((to,)), pair(feed), (0, 1), stop) for to, feed, stop in rows))


def axis_of(speed, rate, jump):
    return (pairs((speed, rate, jump)),)


def extreme_programs(seed, many):
    """Programs with speeds, rates and lengths small and great, jumps of 0 and great."""
    chance = random.Random(seed)
    sizes = [Fraction(1, 10 ** 12), Fraction(1, 9), Fraction(1), Fraction(7), Fraction(10 ** 12)]
    for _ in range(many):
        program = some_program(chance)
        steps = tuple((point, pair(chance.choice(sizes)), (0, 1), stop) for point, _, _, stop in program[1])
        limits = tuple(
            pairs((chance.choice(sizes), chance.choice(sizes), chance.choice(sizes + [Fraction(0)])))
            for _ in program[0]
        )
        yield (program[0], steps), limits


class TestGreatest(unittest.TestCase):
    def check(self, program, limits):
        before = copy.deepcopy((program, limits))
        course = greatest(program, limits)
        self.assertEqual(course, greatest(limits=limits, program=program))
        self.assertEqual((program, limits), before)
        road = Road(program, limits)
        self.assertEqual(course, course_of(*road.bends()))
        rows = numbers(course)
        for joint in road.ways:
            self.assertEqual(square_on(rows, joint), road.greatest_at(joint))
        for (low, _), (high, _) in zip(rows, rows[1:]):
            for way in ((low + high) / 2, low + (high - low) / 7, high - (high - low) / 10 ** 9):
                self.assertEqual(square_on(rows, way), road.greatest_at(way))

    def test_of_any_kind(self):
        for program, limits in some_programs(1, 90):
            self.check(program, limits)

    def test_small_and_great(self):
        for program, limits in extreme_programs(2, 60):
            self.check(program, limits)

    def test_thirty_moves_on_three_axes(self):
        chance = random.Random(3)
        for _ in range(3):
            self.check(some_program(chance, 3, 30), some_limits(chance, 3))

    def test_leasts_are_left_aside(self):
        for program, limits in some_programs(4, 30):
            self.assertEqual(greatest(program, limits), greatest(without_leasts(program), limits))

    def test_it_bends_at_each_inner_member(self):
        for program, limits in list(some_programs(5, 40)) + list(extreme_programs(6, 20)):
            rows = numbers(greatest(program, limits))
            slopes = [(square - low) / (way - at) for (at, low), (way, square) in zip(rows, rows[1:])]
            for one, other in zip(slopes, slopes[1:]):
                self.assertNotEqual(one, other)
            self.assertEqual((rows[0], rows[-1]), ((0, 0), (number(whole(program)), 0)))

    def test_nothing_above_it_keeps_the_program(self):
        chance = random.Random(7)
        for program, limits in some_programs(8, 25):
            program = without_leasts(program)
            course = greatest(program, limits)
            self.assertIsNone(judged(program, limits, course))
            rows, last = numbers(course), number(course[-1][0])
            some = [way for way, _ in rows] + [last * Fraction(chance.randint(0, 99), 99) for _ in range(6)]
            for way in some:
                for more in (Fraction(1), Fraction(1, 10 ** 17)):
                    raised = sorted([row for row in rows if row[0] != way] + [(way, square_on(rows, way) + more)])
                    self.assertIsNotNone(judged(program, limits, course_of(*raised)), (program, limits, way))


class TestByHand(unittest.TestCase):
    def check(self, program, limits, *rows):
        self.assertEqual(greatest(program, limits), course_of(*rows))

    def test_one_move(self):
        limits = axis_of(10, 1, 0)
        self.check(line_of((10, 2, False)), limits, (0, 0), (2, 4), (8, 4), (10, 0))
        self.check(line_of((-10, 2, True)), limits, (0, 0), (2, 4), (8, 4), (10, 0))
        self.check(line_of((4, 2, False)), limits, (0, 0), (2, 4), (4, 0))
        self.check(line_of((3, 2, False)), limits, (0, 0), (Fraction(3, 2), 3), (3, 0))

    def test_the_speed_of_the_axis(self):
        self.check(line_of((10, 20, False)), axis_of(2, 1, 0), (0, 0), (2, 4), (8, 4), (10, 0))

    def test_a_joint_on_the_way_up_is_none_of_the_ways(self):
        limits = axis_of(10, 1, 0)
        self.check(line_of((1, 3, False), (10, 2, False)), limits, (0, 0), (2, 4), (8, 4), (10, 0))
        self.check(line_of((5, 2, False), (10, 2, False)), limits, (0, 0), (2, 4), (8, 4), (10, 0))
        self.check(line_of((9, 2, False), (10, 3, False)), limits, (0, 0), (2, 4), (8, 4), (10, 0))

    def test_a_cap_that_is_met_without_a_bend_is_none_of_the_ways(self):
        # At 2 the cap 4 of the first move is met just where the second move goes on rising.
        limits = axis_of(10, 1, 0)
        self.check(line_of((2, 2, False), (10, 9, False)), limits, (0, 0), (5, 10), (10, 0))
        self.check(line_of((8, 9, False), (10, 2, False)), limits, (0, 0), (5, 10), (10, 0))

    def test_a_cap_that_is_met_just_at_a_bend(self):
        limits = axis_of(10, 1, 0)
        self.check(line_of((2, 2, False), (10, 2, False)), limits, (0, 0), (2, 4), (8, 4), (10, 0))
        self.check(line_of((5, 9, False), (10, 9, False)), limits, (0, 0), (5, 10), (10, 0))

    def test_a_lesser_feed_ahead_and_behind(self):
        limits = axis_of(10, 1, 0)
        self.check(
            line_of((10, 3, False), (20, 1, False)), limits,
            (0, 0), (Fraction(9, 2), 9), (6, 9), (10, 1), (Fraction(39, 2), 1), (20, 0),
        )
        self.check(
            line_of((10, 1, False), (20, 3, False)), limits,
            (0, 0), (Fraction(1, 2), 1), (10, 1), (14, 9), (Fraction(31, 2), 9), (20, 0),
        )

    def test_a_stop(self):
        limits = axis_of(10, 1, 0)
        self.check(
            line_of((10, 2, True), (13, 2, False)), limits,
            (0, 0), (2, 4), (8, 4), (10, 0), (Fraction(23, 2), 3), (13, 0),
        )

    def test_a_move_back(self):
        turned = line_of((10, 3, False), (0, 3, False))
        self.check(turned, axis_of(10, 1, 0), (0, 0), (Fraction(9, 2), 9), (Fraction(11, 2), 9), (10, 0),
                   (Fraction(29, 2), 9), (Fraction(31, 2), 9), (20, 0))
        self.check(turned, axis_of(10, 1, 2), (0, 0), (Fraction(9, 2), 9), (6, 9), (10, 1), (14, 9),
                   (Fraction(31, 2), 9), (20, 0))
        self.check(turned, axis_of(10, 1, 6), (0, 0), (Fraction(9, 2), 9), (Fraction(31, 2), 9), (20, 0))

    def test_a_cap_far_ahead_binds_through_short_moves(self):
        steps = [(k, 9, False) for k in range(1, 9)] + [(9, 9, True), (30, 9, False)]
        course = greatest(line_of(*steps), axis_of(10, 1, 0))
        self.assertEqual(course[:3], course_of((0, 0), (Fraction(9, 2), 9), (9, 0)))

    def test_other_pulls_bend_at_the_joint(self):
        program = (pairs((0, 0)), tuple(
            (pairs(point), (9, 1), (0, 1), False) for point in ((1, 0), (2, Fraction(1, 2)), (10, Fraction(9, 2)))
        ))
        limits = (pairs((10, 4, 1)), pairs((10, 1, 50)))
        self.check(program, limits, (0, 0), (1, 8), (Fraction(9, 2), 22), (10, 0))


class TestFactG(unittest.TestCase):
    def test_backwards(self):
        for program, limits in some_programs(11, 50):
            last = number(whole(program))
            told = [(last - way, square) for way, square in numbers(greatest(program, limits))]
            self.assertEqual(greatest(backwards(program), limits), course_of(*told[::-1]))

    def test_moved(self):
        for program, limits in some_programs(12, 25):
            shift = pairs((Fraction(5, 7), -3, 10 ** 20))[:len(program[0])]
            self.assertEqual(greatest(moved(program, shift), limits), greatest(program, limits))

    def test_grown(self):
        for program, limits in some_programs(13, 25):
            for factor in (Fraction(2), Fraction(3, 7), Fraction(1, 10 ** 20)):
                told = [(way * factor, square * factor ** 2) for way, square in numbers(greatest(program, limits))]
                both = (grown(program, pair(factor)), grown_limits(program, limits, pair(factor)))
                self.assertEqual(greatest(*both), course_of(*told))

    def test_with_its_axes_in_another_sequence(self):
        for program, limits in some_programs(14, 25):
            count = len(program[0])
            for order in (tuple(range(count))[::-1], tuple(range(1, count)) + (0,)):
                told = greatest(led(program, order), led_limits(program, limits, order))
                self.assertEqual(told, greatest(program, limits))

    def test_with_a_move_parted(self):
        chance = random.Random(15)
        for program, limits in some_programs(16, 40):
            if len(program[1]) == 30:
                continue
            index = chance.randrange(len(program[1]))
            begin = ([program[0]] + [step[0] for step in program[1]])[index]
            point, feed, least, stop = program[1][index]
            share = chance.choice((Fraction(1, 2), Fraction(1, 3), Fraction(1, 10 ** 9)))
            middle = pairs(number(at) + share * (number(to) - number(at)) for at, to in zip(begin, point))
            parts = ((middle, feed, least, False), (point, feed, least, stop))
            parted = (program[0], program[1][:index] + parts + program[1][index + 1:])
            self.assertTrue(is_program(parted))
            self.assertEqual(greatest(parted, limits), greatest(program, limits))

    def test_one_program_behind_another_one(self):
        chance = random.Random(17)
        for _ in range(40):
            axes = chance.randint(1, 3)
            one, limits = some_program(chance, axes, chance.randint(1, 6)), some_limits(chance, axes)
            two = some_program(chance, axes, chance.randint(1, 6))
            shift = pairs(number(at) - number(to) for at, to in zip(one[1][-1][0], two[0]))
            two = moved(two, shift)
            stopped = with_part(one, len(one[1]) - 1, 3, True)
            both = (one[0], stopped[1] + two[1])
            first, last = greatest(one, limits), number(whole(one))
            second = [(way + last, square) for way, square in numbers(greatest(two, limits))]
            self.assertEqual(greatest(both, limits), first + course_of(*second)[1:])
            through = with_part(both, len(one[1]) - 1, 3, False)
            self.assertTrue(is_below(greatest(both, limits), greatest(through, limits)))
            self.assertTrue(judgement(without_leasts(through), limits, greatest(both, limits)) is None)

    def test_with_greater_and_lesser_bounds(self):
        chance = random.Random(18)
        for program, limits in some_programs(19, 60):
            course = greatest(program, limits)
            axis, member = chance.randrange(len(limits)), chance.randrange(3)
            for factor in (Fraction(3, 2), Fraction(2, 3)):
                changed = with_member(limits[axis], member, pair(number(limits[axis][member]) * factor))
                other = greatest(program, with_member(limits, axis, changed))
                self.assertTrue(is_below(course, other) if factor > 1 else is_below(other, course))
                step = chance.randrange(len(program[1]))
                feed = pair(number(program[1][step][1]) * factor)
                other = greatest(with_part(without_leasts(program), step, 1, feed), limits)
                self.assertTrue(is_below(course, other) if factor > 1 else is_below(other, course))

    def test_all_bounds_twice_as_great(self):
        # The same path: speeds of n times as much and rates of n times n make squares n times n as great.
        for program, limits in some_programs(20, 20):
            fast = (program[0], tuple((point, pair(number(feed) * 3), (0, 1), stop)
                                      for point, feed, _, stop in program[1]))
            wide = tuple(pairs((number(speed) * 3, number(rate) * 9, number(jump) * 3))
                         for speed, rate, jump in limits)
            told = [(way, square * 9) for way, square in numbers(greatest(program, limits))]
            self.assertEqual(greatest(fast, wide), course_of(*told))


class TestWrongInputs(unittest.TestCase):
    def test_programs_and_limits(self):
        with self.assertRaises(InvalidProgram) as caught:
            greatest(with_part(PROGRAM, 1, 3, 1), None)
        self.assertEqual(caught.exception.place, (1, 1, 3))
        with self.assertRaises(InvalidLimits) as caught:
            greatest(PROGRAM, with_member(LIMITS, 1, ((1, 1), (0, 1), (1, 1))))
        self.assertEqual(caught.exception.index, 1)

    def test_samples_are_right(self):
        for program, limits in list(some_programs(21, 20)) + list(extreme_programs(22, 20)):
            self.assertTrue(is_program(program) and is_limits(program, limits))
            self.assertEqual(len(ways(program)), len(lengths(program)) + 1)
            self.assertEqual(square_at(greatest(program, limits), (0, 1)), (0, 1))


if __name__ == "__main__":
    unittest.main()
