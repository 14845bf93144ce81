"""Point [18], fact X: the texts of programs, limits and courses."""

import copy
import itertools
import random
import unittest
from fractions import Fraction

from fastestalong.courses import greatest
from fastestalong.errors import InvalidLimits, InvalidProgram
from fastestalong.fractions import fraction_text, fraction_told
from fastestalong.texts import (
    course_text, course_told, limits_text, limits_told, program_text, program_told, shortest,
)
from grammar import COURSE, LIMITS as LIMITS_GRAMMAR, PROGRAM as PROGRAM_GRAMMAR, Net
from samples import (
    LIMITS, ODD_VALUES, PROGRAM, Row, course_of, line_program, number, pair, pairs, some_limits, some_number, some_program,
    some_programs, with_member, with_part,
)

NETS = {"program": Net(PROGRAM_GRAMMAR), "limits": Net(LIMITS_GRAMMAR), "course": Net(COURSE)}


def lead_of(word, ahead, point, wanted):
    """The beginning of a step's line, with these axes alone told."""
    told = [word]
    for axis in wanted:
        value = number(point[axis]) - (number(ahead[axis]) if word == "by" else 0)
        told.append("xyz"[axis] + " " + fraction_text(pair(value)))
    return " ".join(told)


def changed_axes(ahead, point):
    return [axis for axis in range(len(point)) if ahead[axis] != point[axis]]


def text_of(program, choose):
    """The text of a program that tells nothing that is not needed, told which lead of two to choose."""
    lines = ["start " + " ".join(f"{axis} {fraction_text(part)}" for axis, part in zip("xyz", program[0]))]
    ahead, feed, least = program[0], None, (0, 1)
    for point, step_feed, step_least, stop in program[1]:
        wanted = changed_axes(ahead, point)
        line = choose(lead_of("to", ahead, point, wanted), lead_of("by", ahead, point, wanted))
        line += f" feed {fraction_text(step_feed)}" if step_feed != feed else ""
        line += f" least {fraction_text(step_least)}" if step_least != least else ""
        lines.append(line + (" stop" if stop else ""))
        ahead, feed, least = point, step_feed, step_least
    return "\n".join(lines)


def any_text_of(chance, program):
    """Any text that tells a program."""
    lines = text_of(program, lambda to, by: to).split("\n")[:1]
    ahead, feed, least = program[0], None, (0, 1)
    for point, step_feed, step_least, stop in program[1]:
        needed = changed_axes(ahead, point)
        wanted = [axis for axis in range(len(point)) if axis in needed or chance.random() < 0.5]
        line = lead_of(chance.choice(("to", "by")), ahead, point, wanted)
        if step_feed != feed or chance.random() < 0.5:
            line += f" feed {fraction_text(step_feed)}"
        if step_least != least or chance.random() < 0.5:
            line += f" least {fraction_text(step_least)}"
        lines.append(line + (" stop" if stop else ""))
        ahead, feed, least = point, step_feed, step_least
    return "\n".join(lines)


def staying(chance, program):
    """The program with feeds, leasts and axes that often stay."""
    steps, ahead, feed, least = [], program[0], (7, 1), (0, 1)
    for step in program[1]:
        if chance.random() < 0.3:
            feed, least = step[1:3]
        point = tuple(kept if chance.random() < 0.4 else part for kept, part in zip(ahead, step[0]))
        point = step[0] if point == ahead else point
        if point != ahead:
            steps.append((point, feed, least, step[3]))
            ahead = point
    return (program[0], tuple(steps))


def several(seed, many):
    chance = random.Random(seed)
    while many > 0:
        program = some_program(chance)
        if chance.random() < 0.7:
            program = staying(chance, program)
        if program[1]:
            many -= 1
            yield program


class TestProgramText(unittest.TestCase):
    def test_of_any_kind(self):
        for program in several(1, 150):
            before = copy.deepcopy(program)
            told = program_text(program)
            self.assertEqual(told, text_of(program, lambda to, by: to))
            self.assertEqual(told, program_text(program=program))
            short = shortest(program)
            self.assertEqual(short, text_of(program, lambda to, by: by if len(by) < len(to) else to))
            self.assertEqual(short, shortest(program=program))
            self.assertEqual(program, before)
            for text in (told, short):
                self.assertIs(type(text), str)
                self.assertEqual(program_told(text), program)
                self.assertEqual(program_told(text=text), program)
                self.assertIsNone(NETS["program"].fault(text))

    def test_known_ones(self):
        self.assertEqual(program_text(PROGRAM), "start x 0 y 0\nto x 4 feed 2\nto y 3 feed 3 least 0.5")
        # Both are of one length, so it is `to`.
        self.assertEqual(shortest(PROGRAM), program_text(PROGRAM))
        self.assertEqual(program_text(with_part(PROGRAM, 0, 2, (2, 1))), (
            "start x 0 y 0\nto x 4 feed 2 least 2\nto y 3 feed 3 least 0.5"
        ))
        self.assertEqual(program_text(with_part(with_part(PROGRAM, 1, 1, (2, 1)), 0, 2, (1, 2))), (
            "start x 0 y 0\nto x 4 feed 2 least 0.5\nto y 3"
        ))
        back = with_part(with_part(PROGRAM, 0, 2, (1, 2)), 1, 2, (0, 1))
        self.assertEqual(program_text(back), "start x 0 y 0\nto x 4 feed 2 least 0.5\nto y 3 feed 3 least 0")
        far = (pairs((100, Fraction(1, 3), -5)), (
            (pairs((101, Fraction(1, 3), -5)), (1, 3), (1, 3), True), (pairs((101, 0, -6)), (1, 3), (1, 3), True),
        ))
        self.assertEqual(program_text(far), (
            "start x 100 y 1/3 z -5\nto x 101 feed 1/3 least 1/3 stop\nto y 0 z -6 stop"
        ))
        self.assertEqual(shortest(far), (
            "start x 100 y 1/3 z -5\nby x 1 feed 1/3 least 1/3 stop\nto y 0 z -6 stop"
        ))

    def test_one_length(self):
        for begin, end, line in (
            (1, 2, "to x 2"), (9, 10, "by x 1"), (-1, -2, "to x -2"), (-9, 1, "to x 1"), (Fraction(1, 2), 1, "to x 1"),
            (10, 9, "to x 9"), (-9, -10, "by x -1"), (-10, -9, "by x 1"), (-2, -1, "by x 1"),
            (Fraction(3, 10), Fraction(13, 10), "by x 1"), (5, -5, "to x -5"),
        ):
            program = (pairs((begin,)), ((pairs((end,)), (1, 1), (0, 1), False),))
            self.assertEqual(shortest(program).split("\n")[1], line + " feed 1")

    def test_no_text_that_tells_no_more_is_shorter(self):
        for program in several(2, 60):
            steps = program[1][:6]
            program = (program[0], steps)
            lengths = []
            for words in itertools.product((0, 1), repeat=len(steps)):
                left = list(words)
                text = text_of(program, lambda *leads: leads[left.pop(0)])
                lengths.append(len(text))
                self.assertEqual(program_told(text), program)
            self.assertEqual(len(shortest(program)), min(lengths))


class TestProgramTold(unittest.TestCase):
    def test_of_any_text(self):
        chance = random.Random(3)
        for program in several(3, 150):
            for _ in range(3):
                text = any_text_of(chance, program)
                self.assertEqual(program_told(text), program)
                self.assertGreaterEqual(len(text), len(shortest(program)))

    def test_known_ones(self):
        self.assertEqual(
            program_told("start x 0 y 1 z 2\nby z 1 feed 3\nto x 0 y 1 z 2 least 1/3 stop\nby x 0 y -0.5 feed 1"),
            (pairs((0, 1, 2)), (
                (pairs((0, 1, 3)), (3, 1), (0, 1), False), (pairs((0, 1, 2)), (3, 1), (1, 3), True),
                (pairs((0, Fraction(1, 2), 2)), (1, 1), (1, 3), False),
            )),
        )

    def test_what_is_no_program(self):
        for text, place in (
            ("start x 0\nto x 0 feed 1", (1, 0, 0)), ("start x 0\nby x 0 feed 1", (1, 0, 0)),
            ("start x 0\nto x 1 feed 0", (1, 0, 1)), ("start x 0\nto x 1 feed -1", (1, 0, 1)),
            ("start x 0\nto x 1 feed 1 least -1", (1, 0, 2)), ("start x 0\nto x 1 feed 1 least 2", (1, 0, 2)),
            ("start x 0\nto x 1 feed 1 least 1\nto x 2 feed 0.5", (1, 1, 2)),
            ("start x 0 y 0\nto x 1 feed 1\nto x 1 y 0", (1, 1, 0)), ("start x 5\nby x 1 feed 1\nto x 6 stop", (1, 1, 0)),
            ("start x 0\nto x 1 feed 0\nto x 1", (1, 0, 1)),
            (program_text(line_program(30)) + "\nto x 31", (1,)), (program_text(line_program(30)) + "\nto x 30" * 900, (1,)),
            (program_text(line_program(30)) + "\nby x 1/3\nby x 1/7" * 400, (1,)),
        ):
            with self.assertRaises(InvalidProgram) as caught:
                program_told(text)
            self.assertEqual(caught.exception.place, place)
        self.assertEqual(program_told(program_text(line_program(30))), line_program(30))

    def test_what_has_no_text(self):
        for call in (program_text, shortest):
            for program, place in ((None, ()), ((PROGRAM[0], ()), (1,)), (with_part(PROGRAM, 1, 2, (4, 1)), (1, 1, 2))):
                with self.assertRaises(InvalidProgram) as caught:
                    call(program)
                self.assertEqual(caught.exception.place, place)


class TestLimits(unittest.TestCase):
    def test_of_any_kind(self):
        chance = random.Random(4)
        for _ in range(150):
            limits = some_limits(chance, chance.randint(1, 3))
            text = limits_text(limits)
            self.assertEqual(text, limits_text(limits=limits))
            self.assertEqual(text.split("\n"), [
                f"{axis} speed {fraction_text(speed)} rate {fraction_text(rate)} jump {fraction_text(jump)}"
                for axis, (speed, rate, jump) in zip("xyz", limits)
            ])
            self.assertEqual(limits_told(text), limits)
            self.assertEqual(limits_told(text=text), limits)

    def test_what_are_no_limits(self):
        for text, index in (
            ("x speed 0 rate 1 jump 1", 0), ("x speed 1 rate 0 jump 1", 0), ("x speed 1 rate 1 jump -1", 0),
            ("x speed 1 rate 1 jump 0\ny speed -1/3 rate 1 jump 0", 1),
            ("x speed 1 rate 1 jump 0\ny speed 1 rate -2 jump 0\nz speed 0 rate 1 jump 0", 1),
            ("x speed 1 rate 1 jump 0\ny speed 1 rate 2 jump 0\nz speed 1 rate 1 jump -0.5", 2),
        ):
            with self.assertRaises(InvalidLimits) as caught:
                limits_told(text)
            self.assertEqual(caught.exception.index, index)

    def test_what_has_no_text(self):
        axis = LIMITS[0]
        for limits, index in [(value, 0) for value in ODD_VALUES] + [
            ((), 0), ((axis,) * 4, 0), ([axis], 0), (Row(LIMITS), 0), ((None,), 0), ((axis, None), 1), (LIMITS + (axis,), None),
            ((axis, list(axis)), 1), ((axis, axis, ((0, 1), (1, 1), (1, 1))), 2), ((axis[:2], None), 0), (axis, 0),
            (with_member(LIMITS, 1, ((1, 1), (1, 1), (2, 4))), 1), ((axis,) * 4 + (None,), 0),
        ]:
            if index is None:
                self.assertEqual(limits_told(limits_text(limits)), limits)
                continue
            with self.assertRaises(InvalidLimits) as caught:
                limits_text(limits)
            self.assertEqual(caught.exception.index, index, limits)


class TestCourse(unittest.TestCase):
    def test_of_any_kind(self):
        for program, limits in some_programs(5, 60):
            course = greatest(program, limits)
            text = course_text(course)
            self.assertEqual(text, course_text(course=course))
            self.assertEqual(text.split("\n"), [f"{fraction_text(way)} {fraction_text(to)}" for way, to in course])
            self.assertEqual(course_told(text), course)
            self.assertEqual(course_told(text=text), course)

    def test_what_is_no_course(self):
        chance = random.Random(6)
        self.assertEqual((course_told(""), course_text(())), ((), ""))
        for _ in range(40):
            rows = tuple(pairs((some_number(chance, -9, 9), some_number(chance, -9, 9))) for _ in range(5))
            self.assertEqual(course_told(course_text(rows)), rows)
        self.assertEqual(course_told("5 -1\n5 -1\n1/3 0"), course_of((5, -1), (5, -1), (Fraction(1, 3), 0)))

    def test_long_numbers(self):
        seven = Fraction(1, 7 ** 6000)
        three = Fraction(-5, 10 ** 5000)
        rows = (pairs((seven, three)), pairs((10 ** 9000 + 1, -10 ** 8000)))
        first, second = course_text(rows).split("\n")
        self.assertEqual(first.split(" ")[1], "-0." + "0" * 4999 + "5")
        self.assertEqual(second.split(" "), ["1" + "0" * 8999 + "1", "-1" + "0" * 8000])
        top, bottom = first.split(" ")[0].split("/")
        value = 0
        for digit in bottom:
            value = value * 10 + int(digit)
        self.assertEqual((top, value), ("1", 7 ** 6000))
        self.assertEqual(fraction_told("0." + "0" * 300 + "5"), pair(Fraction(5, 10 ** 301)))


if __name__ == "__main__":
    unittest.main()
