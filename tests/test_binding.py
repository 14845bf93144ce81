"""Point [17], fact B: what binds the greatest course where."""

import copy
import random
import unittest
from fractions import Fraction

from fastestalong.binding import binding, gains
from fastestalong.courses import greatest
from fastestalong.errors import InvalidIndex, InvalidLimits, InvalidProgram
from oracles import Road, numbers, square_on
from samples import (
    LIMITS, ODD_VALUES, PROGRAM, Whole, line_program, number, pair, pairs, some_limits, some_program, some_programs,
    with_member, with_part,
)


def parts_of(program):
    """The direction of each move, as numbers."""
    points = [program[0]] + [step[0] for step in program[1]]
    told = []
    for begin, end in zip(points, points[1:]):
        distance = [number(to) - number(at) for at, to in zip(begin, end)]
        told.append([part / max(abs(each) for each in distance) for part in distance])
    return told


def givers(parts, bounds):
    """The axes that let the least along a direction."""
    told = {axis: number(bounds[axis]) / abs(part) for axis, part in enumerate(parts) if part}
    return [axis for axis in told if told[axis] == min(told.values())]


class Told:
    """What the point says of a program under limits, worked out with numbers."""

    def __init__(self, program, limits):
        self.road = Road(program, limits)
        self.course = self.road.bends()
        self.marks = sorted({way for way, _ in self.course} | set(self.road.ways))
        self.pieces = list(zip(self.marks, self.marks[1:]))
        self.feeds = [number(step[1]) ** 2 for step in program[1]]
        self.fast = [givers(parts, [axis[0] for axis in limits]) for parts in parts_of(program)]
        self.strong = [givers(parts, [axis[1] for axis in limits]) for parts in parts_of(program)]
        self.touched = [way for way in self.marks if self.touches(way)]

    def square(self, way):
        return square_on(self.course, way)

    def touches(self, way):
        road, bounds = self.road, []
        for begin, end, cap in zip(road.ways, road.ways[1:], road.caps):
            bounds += [cap] if begin <= way <= end else []
        bounds += [turn for joint, turn in zip(road.ways, road.turns) if joint == way]
        return self.square(way) in bounds

    def move(self, piece):
        return [index for index, end in enumerate(self.road.ways[1:]) if piece[1] <= end][0]

    def source(self, low, high):
        if self.square(low) < self.square(high):
            return max(way for way in self.touched if way <= low)
        return min(way for way in self.touched if way >= high)

    def row(self, low, high):
        move = self.move((low, high))
        ends = (self.square(low), self.square(high))
        if ends[0] == ends[1]:
            if ends[0] == self.feeds[move]:
                return (pair(low), pair(high), "feed", None, None)
            return (pair(low), pair(high), "speed", self.fast[move][0], None)
        word = "up" if ends[0] < ends[1] else "down"
        return (pair(low), pair(high), word, self.strong[move][0], pair(self.source(low, high)))

    def gains(self, axis):
        for low, high in self.pieces:
            if self.square(low) != self.square(high):
                source = self.source(low, high)
                reach = (min(low, source), max(high, source))
                for begin, end, axes in zip(self.road.ways, self.road.ways[1:], self.strong):
                    if axes == [axis] and max(begin, reach[0]) < min(end, reach[1]):
                        return pair(low)
        return None


def grid_program(chance, axes, steps):
    """A program on whole numbers, moves often along several axes at once, and often straight on."""
    at, told, ahead = [0] * axes, [], None
    while len(told) < steps:
        if ahead is None or chance.random() < 0.5:
            ahead = [chance.choice((-2, -1, 0, 1, 2)) for _ in range(axes)]
        if any(ahead):
            at = [part + by for part, by in zip(at, ahead)]
            feed = chance.choice((1, 2, 3, 40))
            told.append((pairs(at), pair(feed), (0, 1), chance.random() < 0.1))
    return (pairs([0] * axes), tuple(told))


def grid_limits(chance, axes):
    return tuple(pairs((chance.choice((1, 2, 30)), chance.choice((1, 2)), chance.choice((0, 1, 2, 50))))
                 for _ in range(axes))


def several(seed, many):
    """Programs with limits: any ones, and such on whole numbers, on which axes often let the same."""
    chance = random.Random(seed)
    yield from some_programs(seed, many)
    for _ in range(2 * many):
        axes = chance.randint(1, 3)
        yield grid_program(chance, axes, chance.choice((1, 2, 4, 8, 30))), grid_limits(chance, axes)
    for _ in range(many):
        program = some_program(chance, None, chance.choice((4, 12)))
        quick = (program[0], tuple((step[0], (500, 1)) + step[2:] for step in program[1]))
        limits = tuple(((900, 1), axis[1], (chance.choice((9, 100)), 1)) for axis in some_limits(chance, len(program[0])))
        yield quick, limits


class TestBinding(unittest.TestCase):
    def test_of_any_kind(self):
        words, far = set(), 0
        for program, limits in several(1, 30):
            before = copy.deepcopy((program, limits))
            told = Told(program, limits)
            rows = tuple(told.row(*piece) for piece in told.pieces)
            self.assertEqual(binding(program, limits), rows)
            self.assertEqual(binding(limits=limits, program=program), rows)
            self.assertEqual((program, limits), before)
            words |= {row[2] for row in rows}
            for low, high, word, _, source in rows:
                if source is not None:
                    near = number(low) if word == "up" else number(high)
                    far = max(far, len([way for way in told.road.ways
                                        if min(near, number(source)) < way < max(near, number(source))]))
        self.assertEqual(words, {"feed", "speed", "up", "down"})
        self.assertGreater(far, 3)

    def test_pieces(self):
        for program, limits in several(2, 15):
            rows = binding(program, limits)
            course = numbers(greatest(program, limits))
            ends = sorted({way for way, _ in course} | set(Road(program, limits).ways))
            self.assertEqual([row[:2] for row in rows], [pairs(row) for row in zip(ends, ends[1:])])

    def test_feed_ahead_of_speed(self):
        program = (pairs((0, 0)), ((pairs((9, 9)), (2, 1), (0, 1), False),))
        for speeds, word, axis in (
            ((2, 2), "feed", None), ((3, 2), "feed", None), ((1, 2), "speed", 0), ((2, 1), "speed", 1),
            ((1, 1), "speed", 0),
        ):
            limits = tuple(pairs((speed, 9, 9)) for speed in speeds)
            self.assertEqual(binding(program, limits)[1][2:], (word, axis, None))

    def test_the_least_axis_that_gives(self):
        program = (pairs((0, 0, 0)), ((pairs((9, 9, 0)), (2, 1), (0, 1), False),))
        for rates, axis in (((1, 1), 0), ((2, 1), 1), ((1, 2), 0)):
            limits = tuple(pairs((9, rate, 9)) for rate in rates + (Fraction(1, 9),))
            rows = binding(program, limits)
            self.assertEqual([row[2:4] for row in rows], [("up", axis), ("feed", None), ("down", axis)])

    def test_sources(self):
        line = line_program(4)
        slow = (pairs((9, Fraction(1, 8), 1)),)
        self.assertEqual([row[2:] for row in binding(line, slow)], [
            ("up", 0, (0, 1)), ("up", 0, (0, 1)), ("down", 0, (4, 1)), ("down", 0, (4, 1)),
        ])
        # At the way 1 the course just comes to the feed of the move ahead, and goes on rising behind it.
        touched = with_part(line, 0, 1, (1, 2))
        self.assertEqual([row[2:] for row in binding(touched, slow)], [
            ("up", 0, (0, 1)), ("up", 0, (1, 1)), ("down", 0, (4, 1)), ("down", 0, (4, 1)),
        ])
        many = binding(line_program(30), (pairs((9, Fraction(1, 99), 1)),))
        self.assertEqual([row[2:] for row in many], [("up", 0, (0, 1))] * 15 + [("down", 0, (30, 1))] * 15)
        stopped = with_part(line, 1, 3, True)
        self.assertEqual([row[2:] for row in binding(stopped, slow)], [
            ("up", 0, (0, 1)), ("down", 0, (2, 1)), ("up", 0, (2, 1)), ("down", 0, (4, 1)),
        ])


class TestGains(unittest.TestCase):
    def check(self, program, limits, axis):
        """Fact B: the course with greater rates of the axis."""
        told = gains(program, limits, axis)
        course = numbers(greatest(program, limits))
        speed, rate, jump = limits[axis]
        for factor in (1 + Fraction(1, 10 ** 12), Fraction(2), Fraction(10 ** 6)):
            more = with_member(limits, axis, (speed, pair(number(rate) * factor), jump))
            other = numbers(greatest(program, more))
            if told is None:
                self.assertEqual(other, course)
                continue
            way = number(told)
            marks = sorted({at for at, _ in course + other} | {way})
            for at in marks:
                if at <= way:
                    self.assertEqual(square_on(course, at), square_on(other, at))
            behind = (way + marks[marks.index(way) + 1]) / 2
            self.assertLess(square_on(course, behind), square_on(other, behind))

    def test_of_any_kind(self):
        nones = 0
        for program, limits in several(11, 25):
            told = Told(program, limits)
            for axis in range(len(limits)):
                self.assertEqual(gains(program, limits, axis), told.gains(axis))
                self.assertEqual(gains(axis=axis, limits=limits, program=program), told.gains(axis))
                self.check(program, limits, axis)
                nones += gains(program, limits, axis) is None
        self.assertGreater(nones, 20)

    def test_two_axes_that_give_together(self):
        program = (pairs((0, 0)), (
            (pairs((9, 9)), (2, 1), (0, 1), False), (pairs((18, 9)), (2, 1), (0, 1), False),
        ))
        limits = (pairs((9, 1, 9)), pairs((9, 1, 9)))
        self.assertEqual([gains(program, limits, axis) for axis in (0, 1)], [(16, 1), None])
        limits = (pairs((9, 1, 0)), pairs((9, 1, 0)))
        self.assertEqual([gains(program, limits, axis) for axis in (0, 1)], [(9, 1), None])

    def test_an_axis_that_never_moves(self):
        program = (pairs((0, 5)), ((pairs((9, 5)), (2, 1), (0, 1), False),))
        self.assertIsNone(gains(program, (pairs((9, 1, 9)), pairs((9, Fraction(1, 100), 9))), 1))

    def test_wrong_axes(self):
        for axis in [value for value in ODD_VALUES if type(value) is not int or value not in (0, 1)] + [
            2, 3, -1, -2, Whole(0), (0, 1), (0,), "x",
        ]:
            with self.assertRaises(InvalidIndex):
                gains(PROGRAM, LIMITS, axis)
        line = line_program(2)
        with self.assertRaises(InvalidIndex):
            gains(line, LIMITS[:1], 1)
        self.assertEqual(gains(line, (pairs((9, 1, 9)),), 0), (0, 1))

    def test_program_and_limits_come_first(self):
        for call in (binding, lambda program, limits: gains(program, limits, None)):
            with self.assertRaises(InvalidProgram) as caught:
                call((PROGRAM[0], ()), None)
            self.assertEqual(caught.exception.place, (1,))
            with self.assertRaises(InvalidLimits) as caught:
                call(PROGRAM, with_member(LIMITS, 1, None))
            self.assertEqual(caught.exception.index, 1)


if __name__ == "__main__":
    unittest.main()
