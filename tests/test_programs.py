"""Point [7]: what programs and limits are."""

import copy
import random
import unittest

from fastestalong.errors import InvalidProgram
from fastestalong.programs import axis_count, is_limits, is_program, limits_fault, path, program_fault
from samples import (
    LIMITS, NOT_ABOVE_NOUGHT, NOT_FRACTIONS, NOT_FROM_NOUGHT, ODD_VALUES, PROGRAM, Row, Shelf, line_program,
    some_limits, some_program, some_programs, with_member, with_part, with_step,
)

FOUR_AXES = ((0, 1),) * 4
NOT_POINTS = ODD_VALUES + [
    FOUR_AXES, ((0, 1), (0, 2)), ((0, 1), None), ((0, 1), 0), (None,), ((1, 2), (True, 1)), [(1, 1), (1, 1)],
    Row(((7, 1), (7, 1))), ((2, 4), (1, 1)),
]
NOT_TRUTHS = [None, 0, 1, "True", "", (), (True,), [], (0, 1), (1, 1), -1, 0.0]


def one_or_two_axes(value):
    """Whether an odd value happens to be a point."""
    return type(value) is tuple and value in (((0, 1),), ((0, 1), (0, 1)))


class ProgramCase(unittest.TestCase):
    def check(self, value, place):
        before = copy.deepcopy(value)
        self.assertEqual(program_fault(value), place, value)
        self.assertEqual(program_fault(value=value), place)
        if place is not None:
            self.assertIs(type(program_fault(value)), tuple)
        self.assertIs(is_program(value), place is None)
        self.assertIs(is_program(value=value), place is None)
        for call in (axis_count, path):
            if place is not None:
                with self.assertRaises(InvalidProgram) as caught:
                    call(value)
                self.assertEqual(caught.exception.place, place)
        self.assertEqual(value, before)

    def check_quietly(self, value, place):
        """As check, of values that are unlike their copies, too."""
        self.assertEqual(program_fault(value), place)
        self.assertIs(is_program(value), place is None)


class TestProgram(ProgramCase):
    def test_programs(self):
        chance = random.Random(1)
        for axes in (1, 2, 3):
            for steps in range(1, 31):
                self.check(some_program(chance, axes, steps), None)
        for program, _ in some_programs(2, 50):
            self.check(program, None)
        self.check(PROGRAM, None)

    def test_no_tuple_of_two(self):
        for value in ODD_VALUES + [
            PROGRAM[:1], PROGRAM + ((),), list(PROGRAM), Row(PROGRAM), Shelf(PROGRAM), PROGRAM[1], (), (PROGRAM,),
        ]:
            if type(value) is not tuple or len(value) != 2:
                self.check_quietly(value, ())
        self.check([PROGRAM[0], PROGRAM[1]], ())

    def test_start(self):
        for value in NOT_POINTS:
            if not one_or_two_axes(value):
                self.check_quietly((value, PROGRAM[1]), (0,))
                self.check_quietly((value, None), (0,))
        self.check(((), PROGRAM[1]), (0,))
        self.check((FOUR_AXES, PROGRAM[1]), (0,))

    def test_start_of_another_number_of_axes_shows_in_the_first_step(self):
        self.check((((0, 1),), PROGRAM[1]), (1, 0, 0))
        self.check((((0, 1),) * 3, PROGRAM[1]), (1, 0, 0))

    def test_steps(self):
        for value in ODD_VALUES + [list(PROGRAM[1]), Row(PROGRAM[1])]:
            if type(value) is not tuple or not value or len(value) > 30:
                self.check_quietly((PROGRAM[0], value), (1,))
        self.check((PROGRAM[0], ()), (1,))

    def test_how_many_steps(self):
        self.check(line_program(1), None)
        self.check(line_program(30), None)
        self.check(line_program(31), (1,))
        self.check(line_program(1000), (1,))
        long = line_program(30)
        self.check((long[0], long[1] + (None,)), (1,))

    def test_step_that_is_no_tuple_of_four(self):
        for program, _ in some_programs(3, 20):
            for index, step in enumerate(program[1]):
                for value in (None, (), step[:3], step + (False,), list(step), Row(step), "step", 4, step[0], True):
                    self.check(with_step(program, index, value), (1, index))

    def test_point_of_a_step(self):
        for index in (0, 1):
            for value in NOT_POINTS + [((1, 1),), ((1, 1),) * 3]:
                if not one_or_two_axes(value):
                    self.check_quietly(with_part(PROGRAM, index, 0, value), (1, index, 0))

    def test_point_like_the_one_ahead(self):
        for program, _ in some_programs(4, 20):
            ahead = program[0]
            for index, step in enumerate(program[1]):
                self.check(with_part(program, index, 0, ahead), (1, index, 0))
                ahead = step[0]

    def test_point_like_one_that_is_not_right_ahead(self):
        self.check(with_part(PROGRAM, 1, 0, PROGRAM[0]), None)

    def test_feed(self):
        for index in (0, 1):
            for value in NOT_ABOVE_NOUGHT:
                self.check_quietly(with_part(PROGRAM, index, 1, value), (1, index, 1))

    def test_least(self):
        for index in (0, 1):
            for value in NOT_FROM_NOUGHT:
                self.check_quietly(with_part(PROGRAM, index, 2, value), (1, index, 2))

    def test_least_beside_feed(self):
        for feed, least, place in [
            ((2, 1), (2, 1), None), ((2, 1), (0, 1), None), ((2, 1), (200001, 100000), (1, 0, 2)),
            ((2, 1), (3, 1), (1, 0, 2)), ((1, 3), (1, 3), None), ((1, 3), (334, 1000 - 1), (1, 0, 2)),
            ((10 ** 40, 3), (10 ** 40, 3), None), ((10 ** 40, 3), (10 ** 40 + 1, 3), (1, 0, 2)),
            ((1, 10 ** 40), (1, 10 ** 40 - 1), (1, 0, 2)), ((5, 1), (1, 2), None),
        ]:
            program = with_part(with_part(PROGRAM, 0, 1, feed), 0, 2, least)
            self.check(program, place)

    def test_stop(self):
        for index in (0, 1):
            for value in NOT_TRUTHS:
                self.check(with_part(PROGRAM, index, 3, value), (1, index, 3))
            self.check(with_part(PROGRAM, index, 3, True), None)
            self.check(with_part(PROGRAM, index, 3, False), None)

    def test_first_of_two_faults_in_a_step(self):
        wrong = [None, (0, 1), (-1, 2), 0]
        for first in range(4):
            for second in range(first + 1, 4):
                program = with_part(PROGRAM, 0, first, wrong[first])
                self.check(with_part(program, 0, second, wrong[second]), (1, 0, first))

    def test_first_of_two_steps_with_faults(self):
        wrong = [None, (0, 1), (-1, 2), 0]
        for first in range(4):
            for second in range(4):
                program = with_part(PROGRAM, 0, first, wrong[first])
                self.check(with_part(program, 1, second, wrong[second]), (1, 0, first))
            self.check(with_step(with_part(PROGRAM, 0, first, wrong[first]), 1, None), (1, 0, first))
            self.check(with_step(with_part(PROGRAM, 1, first, wrong[first]), 0, None), (1, 0))

    def test_start_ahead_of_steps(self):
        self.check(((), ()), (0,))
        self.check((((0, 2),), (None,)), (0,))


class TestLimits(unittest.TestCase):
    def check(self, program, value, index):
        self.assertEqual(limits_fault(program, value), index, value)
        self.assertEqual(limits_fault(value=value, program=program), index)
        if index is not None:
            self.assertIs(type(limits_fault(program, value)), int)
        self.assertIs(is_limits(program, value), index is None)
        self.assertIs(is_limits(value=value, program=program), index is None)

    def test_limits(self):
        for program, limits in some_programs(5, 60):
            before = copy.deepcopy((program, limits))
            self.check(program, limits, None)
            self.assertEqual((program, limits), before)

    def test_other_numbers_of_axes(self):
        chance = random.Random(6)
        for axes in (1, 2, 3):
            program = some_program(chance, axes)
            for many in range(6):
                self.check(program, some_limits(chance, many), None if many == axes else 0)

    def test_no_tuple(self):
        for value in ODD_VALUES + [list(LIMITS), Row(LIMITS), LIMITS[:1], LIMITS + LIMITS[:1], LIMITS[0], ()]:
            self.check(PROGRAM, value, 0)

    def test_members_of_an_axis(self):
        for axis in (0, 1):
            for member, values in enumerate((NOT_ABOVE_NOUGHT, NOT_ABOVE_NOUGHT, NOT_FROM_NOUGHT)):
                for value in values:
                    wrong = with_member(LIMITS[axis], member, value)
                    self.check(PROGRAM, with_member(LIMITS, axis, wrong), axis)
                right = with_member(LIMITS[axis], member, (1, 10 ** 40))
                self.check(PROGRAM, with_member(LIMITS, axis, right), None)
            still = with_member(LIMITS[axis], 2, (0, 1))
            self.check(PROGRAM, with_member(LIMITS, axis, still), None)

    def test_axis_that_is_no_tuple_of_three(self):
        for axis in (0, 1):
            told = LIMITS[axis]
            for value in NOT_FRACTIONS + [told[:2], told + ((1, 1),), list(told), Row(told), (told,)]:
                self.check(PROGRAM, with_member(LIMITS, axis, value), axis)

    def test_first_of_two_axes_at_fault(self):
        chance = random.Random(7)
        program = some_program(chance, 3)
        limits = some_limits(chance, 3)
        for first in range(3):
            for second in range(first + 1, 3):
                wrong = with_member(with_member(limits, first, None), second, ())
                self.check(program, wrong, first)

    def test_what_is_no_program_ahead(self):
        for program, place in ((None, ()), (with_part(PROGRAM, 1, 1, (0, 1)), (1, 1, 1)), (line_program(31), (1,))):
            for value in (LIMITS, None, 0, program):
                for call in (limits_fault, is_limits):
                    with self.assertRaises(InvalidProgram) as caught:
                        call(program, value)
                    self.assertEqual(caught.exception.place, place)
                    with self.assertRaises(InvalidProgram):
                        call(value=value, program=program)


class TestParts(unittest.TestCase):
    def test_axis_count(self):
        chance = random.Random(8)
        for axes in (1, 2, 3):
            program = some_program(chance, axes)
            self.assertEqual(axis_count(program), axes)
            self.assertEqual(axis_count(program=program), axes)
            self.assertIs(type(axis_count(program)), int)

    def test_path(self):
        for program, _ in some_programs(9, 30):
            told = path(program)
            self.assertIs(type(told), tuple)
            self.assertEqual(told, path(program=program))
            self.assertEqual(len(told), len(program[1]) + 1)
            self.assertEqual(told[0], program[0])
            for index, step in enumerate(program[1]):
                self.assertEqual(told[index + 1], step[0])


if __name__ == "__main__":
    unittest.main()
