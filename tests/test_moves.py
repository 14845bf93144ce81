"""Point [8]: moves, along one axis and across all, with and without bounds that bind."""

import copy
import unittest
from fractions import Fraction

from fastestalong.errors import InvalidWay
from fastestalong.moves import (
    caps, directions, lengths, move_at, point_at, pulls, turn_caps, ways, whole,
)
from fastestalong.programs import path
from samples import (
    LIMITS, NOT_FRACTIONS, PROGRAM, number, pair, pairs, some_programs, with_member, with_part,
)


def program_of(points, stops=(), feed=(100, 1)):
    """A program through points of whole numbers."""
    told = [pairs(point) for point in points]
    steps = tuple((point, feed, (0, 1), index in stops) for index, point in enumerate(told[1:]))
    return (told[0], steps)


def limits_of(*axes):
    return tuple(pairs(axis) for axis in axes)


def distances(program):
    points = path(program)
    return [[number(to) - number(at) for at, to in zip(one, other)] for one, other in zip(points, points[1:])]


def lengths_told(program):
    return [max(abs(part) for part in distance) for distance in distances(program)]


def directions_told(program):
    return [[part / max(abs(side) for side in distance) for part in distance] for distance in distances(program)]


class TestLengths(unittest.TestCase):
    def test_lengths_and_directions(self):
        for program, _ in some_programs(1, 80):
            before = copy.deepcopy(program)
            self.assertEqual(lengths(program), pairs(lengths_told(program)))
            self.assertEqual(lengths(program=program), lengths(program))
            self.assertEqual(directions(program), tuple(pairs(told) for told in directions_told(program)))
            self.assertEqual(directions(program=program), directions(program))
            for direction in directions(program):
                self.assertIn(max(abs(number(part)) for part in direction), (1,))
            self.assertEqual(program, before)

    def test_signs_are_kept(self):
        program = program_of([(0, 0, 0), (-4, 2, 0), (-4, 2, -3), (-2, 0, -3)])
        self.assertEqual(lengths(program), pairs((4, 3, 2)))
        self.assertEqual(directions(program), (pairs((-1, Fraction(1, 2), 0)), pairs((0, 0, -1)), pairs((1, -1, 0))))

    def test_ways(self):
        for program, _ in some_programs(2, 60):
            told = [Fraction(0)]
            for length in lengths_told(program):
                told.append(told[-1] + length)
            self.assertEqual(ways(program), pairs(told))
            self.assertEqual(ways(program=program), pairs(told))
            self.assertEqual(whole(program), pair(told[-1]))
            self.assertEqual(whole(program=program), pair(told[-1]))


class TestPlaces(unittest.TestCase):
    def check(self, program, way, index, point):
        self.assertEqual(move_at(program, pair(way)), index)
        self.assertEqual(move_at(way=pair(way), program=program), index)
        self.assertEqual(point_at(program, pair(way)), point)
        self.assertEqual(point_at(way=pair(way), program=program), point)

    def test_at_the_start_at_joints_and_at_the_end(self):
        for program, _ in some_programs(3, 40):
            points, told = path(program), [number(way) for way in ways(program)]
            last = len(program[1]) - 1
            for index, way in enumerate(told):
                self.check(program, way, min(index, last), points[index])

    def test_between_and_right_beside_joints(self):
        tiny = Fraction(1, 10 ** 40)
        for program, _ in some_programs(4, 25):
            points, told = path(program), [number(way) for way in ways(program)]
            for index in range(len(program[1])):
                low, high = told[index], told[index + 1]
                for way in (low + tiny, (low + high) / 2, low + (high - low) * Fraction(2, 7), high - tiny):
                    share = (way - low) / (high - low)
                    point = pairs(
                        number(at) + (number(to) - number(at)) * share
                        for at, to in zip(points[index], points[index + 1])
                    )
                    self.check(program, way, index, point)

    def test_ways_that_are_none(self):
        wrong = NOT_FRACTIONS + [(-1, 1), (-1, 10 ** 40), (8, 1), (7 * 10 ** 40 + 1, 10 ** 40), (10 ** 89, 1)]
        for way in wrong:
            for call in (move_at, point_at):
                with self.assertRaises(InvalidWay):
                    call(PROGRAM, way)
                with self.assertRaises(InvalidWay):
                    call(way=way, program=PROGRAM)


class TestCaps(unittest.TestCase):
    def test_caps_and_pulls(self):
        for program, limits in some_programs(5, 120):
            before = copy.deepcopy((program, limits))
            squares, rates = [], []
            for step, direction in zip(program[1], directions_told(program)):
                sides = [(abs(part), axis) for part, axis in zip(direction, limits) if part != 0]
                squares.append(min([number(step[1])] + [number(axis[0]) / part for part, axis in sides]) ** 2)
                rates.append(min(number(axis[1]) / part for part, axis in sides))
            self.assertEqual(caps(program, limits), pairs(squares))
            self.assertEqual(caps(limits=limits, program=program), pairs(squares))
            self.assertEqual(pulls(program, limits), pairs(rates))
            self.assertEqual(pulls(limits=limits, program=program), pairs(rates))
            self.assertEqual((program, limits), before)

    def test_feeds_that_bind_and_that_do_not(self):
        limits = limits_of((10, 1, 0), (6, 3, 0))
        for feed, told in ((1, (1, 1, 1)), (6, (36, 36, 36)), (8, (64, 36, 64)), (20, (100, 36, 100))):
            program = program_of([(0, 0), (5, 0), (5, -5), (1, -3)], feed=(feed, 1))
            self.assertEqual(caps(program, limits), pairs(told))
            self.assertEqual(pulls(program, limits), pairs((1, 3, 1)))

    def test_across_all_axes(self):
        program = program_of([(0, 0, 0), (-6, 3, 2), (0, 3, 2)])
        limits = limits_of((12, 4, 0), (5, 5, 0), (3, 1, 0))
        self.assertEqual(caps(program, limits), pairs((81, 144)))
        self.assertEqual(pulls(program, limits), pairs((3, 4)))

    def test_axes_that_do_not_move_do_not_bind(self):
        program = program_of([(0, 0, 0), (0, 7, 0), (7, 7, 0)])
        limits = limits_of((9, 2, 0), (4, 3, 0), (Fraction(1, 10 ** 40), Fraction(1, 10 ** 40), 0))
        self.assertEqual(caps(program, limits), pairs((16, 81)))
        self.assertEqual(pulls(program, limits), pairs((3, 2)))


class TestTurnCaps(unittest.TestCase):
    def check(self, program, limits, told):
        expected = tuple(None if cap is None else pair(cap) for cap in told)
        self.assertEqual(turn_caps(program, limits), expected)
        self.assertEqual(turn_caps(limits=limits, program=program), expected)

    def test_as_told(self):
        for program, limits in some_programs(6, 120):
            told, expected = directions_told(program), [0]
            for step, ahead, behind in zip(program[1], told, told[1:]):
                bounds = [
                    number(axis[2]) / abs(one - other) for axis, one, other in zip(limits, ahead, behind)
                    if one != other
                ]
                expected.append(0 if step[3] else min(bounds) ** 2 if bounds else None)
            self.check(program, limits, expected + [0])

    def test_of_one_move(self):
        limits = limits_of((9, 9, 9))
        self.check(program_of([(0,), (5,)]), limits, [0, 0])
        self.check(program_of([(0,), (5,)], stops=(0,)), limits, [0, 0])

    def test_of_one_direction(self):
        limits = limits_of((9, 9, 0), (9, 9, 2))
        points = [(0, 0), (2, 4), (3, 6), (13, 26)]
        self.check(program_of(points), limits, [0, None, None, 0])
        self.check(program_of(points, stops=(1,)), limits, [0, None, 0, 0])
        self.check(program_of(points, stops=(0, 1, 2)), limits, [0, 0, 0, 0])

    def test_of_opposite_directions(self):
        limits = limits_of((9, 9, 4), (9, 9, 1))
        self.check(program_of([(0, 0), (5, 0), (1, 0)]), limits, [0, 4, 0])
        self.check(program_of([(0, 0), (4, 4), (1, 1)]), limits, [0, Fraction(1, 4), 0])
        self.check(program_of([(0, 0), (4, 2), (0, 0)]), limits, [0, 1, 0])
        self.check(program_of([(0, 0), (4, 2), (0, 0)], stops=(0,)), limits, [0, 0, 0])

    def test_of_a_jump_of_nought(self):
        limits = limits_of((9, 9, 0), (9, 9, 3), (9, 9, 3))
        self.check(program_of([(0, 0, 0), (5, 0, 0), (5, 5, 0)]), limits, [0, 0, 0])
        self.check(program_of([(0, 0, 0), (5, 5, 0), (10, 5, 5)]), limits, [0, 9, 0])
        self.check(program_of([(0, 0, 0), (0, 5, 0), (0, 5, 5)]), limits, [0, 9, 0])

    def test_axes_whose_parts_are_the_same_do_not_bind(self):
        limits = limits_of((9, 9, Fraction(1, 10 ** 40)), (9, 9, 5))
        self.check(program_of([(0, 0), (4, 2), (8, 2)]), limits, [0, 100, 0])


class TestWhatDoesNotMatter(unittest.TestCase):
    def test_the_last_stop_means_nothing_here(self):
        stopped = with_part(PROGRAM, 1, 3, True)
        for call in (caps, pulls, turn_caps):
            self.assertEqual(call(stopped, LIMITS), call(PROGRAM, LIMITS))

    def test_leasts_mean_nothing_here(self):
        told = with_part(PROGRAM, 1, 2, (0, 1))
        for call in (caps, pulls, turn_caps):
            self.assertEqual(call(told, LIMITS), call(PROGRAM, LIMITS))

    def test_each_answer_hangs_on_its_member_alone(self):
        for member, call in enumerate((caps, pulls, turn_caps)):
            limits = LIMITS
            for axis in (0, 1):
                for other in range(3):
                    if other != member:
                        changed = with_member(limits[axis], other, (1, 1000))
                        limits = with_member(limits, axis, changed)
            self.assertEqual(call(PROGRAM, limits), call(PROGRAM, LIMITS))


if __name__ == "__main__":
    unittest.main()
