"""Point [7]: programs moved, backwards, grown, led; fact M: what goes along with them."""

import itertools
import unittest
from fractions import Fraction

from fastestalong.errors import InvalidFraction, InvalidPart
from fastestalong.moves import caps, lengths, pulls, turn_caps, ways, whole
from fastestalong.programs import backwards, grown, grown_limits, is_limits, is_program, led, led_limits, moved, path
from samples import LIMITS, NOT_ABOVE_NOUGHT, ODD_VALUES, PROGRAM, Row, Whole, number, pair, pairs, some_programs

FACTORS = [(1, 1), (2, 1), (1, 3), (355, 113), (1, 10 ** 40), (10 ** 40 + 1, 7)]


def times_all(numbers, factor):
    return pairs(number(told) * number(factor) for told in numbers)


def grown_caps(told, factor):
    """Caps times the factor's square; None stays."""
    square = number(factor) ** 2
    return tuple(None if cap is None else pair(number(cap) * square) for cap in told)


class TestMoved(unittest.TestCase):
    def shifts(self, axes):
        yield ((0, 1),) * axes
        yield ((1, 1), (-2, 3), (10 ** 40, 7))[:axes]
        yield ((-5, 1), (0, 1), (1, 10 ** 40))[:axes]

    def test_points(self):
        for program, _ in some_programs(1, 40):
            for shift in self.shifts(len(program[0])):
                told = moved(program, shift)
                self.assertEqual(told, moved(shift=shift, program=program))
                self.assertIs(is_program(told), True)
                for point, before in zip(path(told), path(program)):
                    self.assertEqual(point, pairs(number(at) + number(by) for at, by in zip(before, shift)))
                self.assertEqual([step[1:] for step in told[1]], [step[1:] for step in program[1]])
                back = tuple((-top, bottom) for top, bottom in shift)
                self.assertEqual(moved(told, back), program)

    def test_fact_m(self):
        for program, limits in some_programs(2, 40):
            for shift in self.shifts(len(program[0])):
                told = moved(program, shift)
                self.assertEqual(lengths(told), lengths(program))
                for call in (caps, pulls, turn_caps):
                    self.assertEqual(call(told, limits), call(program, limits))

    def test_other_shifts(self):
        for value in ODD_VALUES + [
            ((1, 1),), ((1, 1),) * 3, ((1, 1), (2, 4)), ((1, 1), None), [(1, 1), (1, 1)], (1, 1), Row(((1, 1), (1, 1))),
        ]:
            if type(value) is tuple and value == ((0, 1), (0, 1)):
                continue
            for call in (lambda: moved(PROGRAM, value), lambda: moved(shift=value, program=PROGRAM)):
                with self.assertRaises(InvalidPart):
                    call()


class TestBackwards(unittest.TestCase):
    def test_moves_and_stops(self):
        for program, _ in some_programs(3, 80):
            told = backwards(program)
            self.assertEqual(told, backwards(program=program))
            self.assertIs(is_program(told), True)
            self.assertEqual(path(told), path(program)[::-1])
            steps, before = told[1], program[1][::-1]
            self.assertEqual([step[1:3] for step in steps], [step[1:3] for step in before])
            self.assertEqual([step[3] for step in steps], [step[3] for step in before[1:]] + [False])

    def test_back_again(self):
        for program, _ in some_programs(4, 80):
            last = program[1][-1]
            told = (program[0], program[1][:-1] + (last[:3] + (False,),))
            self.assertEqual(backwards(backwards(program)), told)

    def test_fact_m(self):
        for program, limits in some_programs(5, 80):
            told = backwards(program)
            self.assertEqual(lengths(told), lengths(program)[::-1])
            for call in (caps, pulls, turn_caps):
                self.assertEqual(call(told, limits), call(program, limits)[::-1])

    def test_a_stop_in_each_place(self):
        points = [((k * k, 1),) for k in range(5)]
        for stops in itertools.product((False, True), repeat=4):
            steps = tuple((points[k + 1], (k + 2, 1), (k, 5), stops[k]) for k in range(4))
            steps = tuple((point, feed, pair(Fraction(*least)), stop) for point, feed, least, stop in steps)
            told = backwards((points[0], steps))
            self.assertEqual([step[3] for step in told[1]], [stops[2], stops[1], stops[0], False])


class TestGrown(unittest.TestCase):
    def test_programs(self):
        for program, _ in some_programs(6, 30):
            for factor in FACTORS:
                told = grown(program, factor)
                self.assertEqual(told, grown(factor=factor, program=program))
                self.assertIs(is_program(told), True)
                for point, before in zip(path(told), path(program)):
                    self.assertEqual(point, times_all(before, factor))
                for step, before in zip(told[1], program[1]):
                    self.assertEqual(step[1:3], times_all(before[1:3], factor))
                    self.assertIs(step[3], before[3])
                self.assertEqual(grown(told, factor[::-1]), program)

    def test_limits(self):
        for program, limits in some_programs(7, 30):
            for factor in FACTORS:
                told = grown_limits(program, limits, factor)
                self.assertEqual(told, grown_limits(factor=factor, limits=limits, program=program))
                self.assertIs(is_limits(program, told), True)
                self.assertEqual(told, tuple(times_all(axis, factor) for axis in limits))
                self.assertEqual(grown_limits(program, told, factor[::-1]), limits)

    def test_fact_m(self):
        for program, limits in some_programs(8, 30):
            for factor in FACTORS:
                told, bounds = grown(program, factor), grown_limits(program, limits, factor)
                self.assertEqual(lengths(told), times_all(lengths(program), factor))
                self.assertEqual(ways(told), times_all(ways(program), factor))
                self.assertEqual(pulls(told, bounds), times_all(pulls(program, limits), factor))
                for call in (caps, turn_caps):
                    self.assertEqual(call(told, bounds), grown_caps(call(program, limits), factor))

    def test_other_factors(self):
        for value in NOT_ABOVE_NOUGHT:
            for call in (
                lambda: grown(PROGRAM, value), lambda: grown(factor=value, program=PROGRAM),
                lambda: grown_limits(PROGRAM, LIMITS, value),
                lambda: grown_limits(factor=value, limits=LIMITS, program=PROGRAM),
            ):
                with self.assertRaises(InvalidFraction):
                    call()


class TestLed(unittest.TestCase):
    def test_all_orders(self):
        for program, limits in some_programs(9, 40):
            for order in itertools.permutations(range(len(program[0]))):
                told = led(program, order)
                self.assertEqual(told, led(order=order, program=program))
                self.assertIs(is_program(told), True)
                for point, before in zip(path(told), path(program)):
                    for axis, old in enumerate(order):
                        self.assertEqual(point[axis], before[old])
                self.assertEqual([step[1:] for step in told[1]], [step[1:] for step in program[1]])
                bounds = led_limits(program, limits, order)
                self.assertEqual(bounds, led_limits(order=order, limits=limits, program=program))
                self.assertEqual(bounds, tuple(limits[old] for old in order))
                back = tuple(order.index(axis) for axis in range(len(order)))
                self.assertEqual(led(told, back), program)
                self.assertEqual(led_limits(told, bounds, back), limits)

    def test_fact_m(self):
        for program, limits in some_programs(10, 40):
            for order in itertools.permutations(range(len(program[0]))):
                told, bounds = led(program, order), led_limits(program, limits, order)
                self.assertEqual(lengths(told), lengths(program))
                self.assertEqual(whole(told), whole(program))
                for call in (caps, pulls, turn_caps):
                    self.assertEqual(call(told, bounds), call(program, limits))

    def test_other_orders(self):
        wrong = ODD_VALUES + [
            (0, 0), (1, 1), (1, 2), (0, 2), (-1, 0), (0, -1), (0, 1, 2), (1,), [0, 1], (False, True), (0, True),
            (False, 1), ("0", "1"), (0, None), ((0,), (1,)), (0.0, 1.0), Row((0, 1)), (Whole(0), 1), (10 ** 89, 0),
        ]
        for value in wrong:
            for call in (
                lambda: led(PROGRAM, value), lambda: led(order=value, program=PROGRAM),
                lambda: led_limits(PROGRAM, LIMITS, value),
                lambda: led_limits(order=value, limits=LIMITS, program=PROGRAM),
            ):
                with self.assertRaises(InvalidPart):
                    call()


if __name__ == "__main__":
    unittest.main()
