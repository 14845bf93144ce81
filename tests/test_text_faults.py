"""Point [18]: texts that are none, and the index of the first sign at which no such text goes on."""

import random
import unittest

from fastestalong.errors import InvalidLimits, InvalidProgram, InvalidText
from fastestalong.fractions import fraction_told
from fastestalong.programs import limits_fault, program_fault
from fastestalong.texts import course_text, course_told, limits_text, limits_told, program_text, program_told, shortest
from grammar import spoilt
from samples import ODD_VALUES, line_program, number, pair, some_course, some_limits
from test_texts import NETS, any_text_of, several

CALLS = {"program": program_told, "limits": limits_told, "course": course_told}


def index_of(call, text):
    """The index of InvalidText, None without it."""
    try:
        call(text)
    except InvalidText as fault:
        assert type(fault.index) is int
        return fault.index
    except (InvalidProgram, InvalidLimits):
        return None
    return None


def meant(text):
    """The program that a text of the right form tells, taken apart by lines and words."""
    lines = [line.split(" ") for line in text.split("\n")]
    start = [fraction_told(word) for word in lines[0][2::2]]
    at, feed, least, steps = list(start), None, (0, 1), []
    for words in lines[1:]:
        stop = words[-1] == "stop"
        told = dict(zip(words[1::2], words[2::2]))
        for axis, word in enumerate("xyz"[:len(start)]):
            if word in told:
                value = number(fraction_told(told[word]))
                at[axis] = pair(value + (number(at[axis]) if words[0] == "by" else 0))
        feed = fraction_told(told["feed"]) if "feed" in told else feed
        least = fraction_told(told["least"]) if "least" in told else least
        steps.append((tuple(at), feed, least, stop))
    return (tuple(start), tuple(steps))


class TestFaults(unittest.TestCase):
    def check(self, kind, text):
        index = NETS[kind].fault(text)
        self.assertEqual(index_of(CALLS[kind], text), index, text)
        if index is not None:
            with self.assertRaises(InvalidText) as caught:
                CALLS[kind](text=text)
            self.assertEqual(caught.exception.index, index)
        return index

    def test_spoilt_programs(self):
        chance = random.Random(1)
        faults = 0
        for program in several(1, 250):
            program = (program[0], program[1][:6])
            for text in (program_text(program), any_text_of(chance, program)):
                for _ in range(6):
                    told = spoilt(chance, text)
                    if self.check("program", told) is not None:
                        faults += 1
                        continue
                    self.check_meaning(told)
        self.assertGreater(faults, 2000)

    def check_meaning(self, text):
        place = program_fault(meant(text))
        if place is None:
            self.assertEqual(program_told(text), meant(text))
            return
        with self.assertRaises(InvalidProgram) as caught:
            program_told(text)
        self.assertEqual(caught.exception.place, place)

    def test_each_beginning_and_each_sign(self):
        text = "start x 0 y 1.5 z -1/3\nto x 1 z 2 feed 10 least 0.5 stop\nby y 3 feed 2\nto z 1 least 0\nby x 1 stop"
        for at in range(len(text) + 1):
            self.check("program", text[:at])
            for sign in "xzafls 05-./\n":
                self.check("program", text[:at] + sign)
                self.check("program", text[:at] + sign + text[at:])
                self.check("program", text[:at] + sign + text[at + 1:])

    def test_programs_by_hand(self):
        for text, index in (
            ("", 0), ("s", 1), ("start", 5), ("start x", 7), ("start x ", 8), ("start x 0", 9), ("start x 0\n", 10),
            ("Start", 0), ("start y 0", 6), ("start  x 0", 6), ("start x 0 z 1", 10), ("start x 0 y 1 x 2", 14),
            ("start x 0 y 0 z 0 ", 17), ("start x 01", 9), ("start x 0\nto", 12), ("start x 0\nto x 1", 16),
            ("start x 0\nto x 1\nto x 2", 16), ("start x 0\nto x 1 least 1", 17), ("start x 0\nto x 1 stop", 17),
            ("start x 0\nto y 1 feed 1", 13), ("start x 0 y 0\nto y 1 x 2 feed 1", 21), ("start x 0\ntx", 11),
            ("start x 0\nto x 3/4 feed 1", 18), ("start x 0\nto x 1 feed 1\n", 24), ("start x 0\nto x 1 feed 1 ", 24),
            ("start x 0\nto x 1 feed 1 feed 2", 24), ("start x 0\nto x 1 feed 1 stop least 1", 28),
            ("start x 0\nto x 1 feed 1 stop ", 28), ("start x 0\nto x 1 feed 1 stopp", 28),
            ("start x 0\nto x 1 feed 1 least 2 feed 3", 32), ("start x 0\nto x 1 feed 1\nto feed 2", 27),
            ("start x 0\nto x 1 feed 1\n\nto x 2", 24), (" start x 0", 0), ("start x 0\nto x 1 feed 1.50", 26),
            ("start x 0\nto x 1 feed 1.50\nto x 2", 26), ("start x 0\nto x 1-1 feed 1", 16), ("start x -\n", 9),
            ("start x 0 \nto x 1 feed 1", 10), ("start x 0\nto x 1 feed 1\r\nto x 2", 23),
        ):
            self.assertEqual(self.check("program", text), index, text)

    def test_spoilt_limits(self):
        chance = random.Random(2)
        for _ in range(300):
            limits = some_limits(chance, chance.randint(1, 3))
            for _ in range(4):
                text = spoilt(chance, limits_text(limits))
                if self.check("limits", text) is None:
                    self.check_limits(text)

    def check_limits(self, text):
        rows = tuple(tuple(fraction_told(word) for word in line.split(" ")[2::2]) for line in text.split("\n"))
        index = limits_fault((((0, 1),) * len(rows), line_of(len(rows))), rows)
        if index is None:
            self.assertEqual(limits_told(text), rows)
            return
        with self.assertRaises(InvalidLimits) as caught:
            limits_told(text)
        self.assertEqual(caught.exception.index, index)

    def test_limits_of_four_axes(self):
        text = "x speed 1 rate 1 jump 0\ny speed 1 rate 1 jump 0\nz speed 1 rate 1 jump 0"
        self.assertEqual(self.check("limits", text + "\n"), len(text))
        self.assertEqual(self.check("limits", text + "\nz speed 1 rate 1 jump 0"), len(text))
        self.assertEqual(self.check("limits", text[:24]), 24)
        self.assertEqual(self.check("limits", "y" + text[1:]), 0)
        self.assertEqual(self.check("limits", ""), 0)

    def test_spoilt_courses(self):
        chance = random.Random(3)
        for _ in range(200):
            text = course_text(some_course(chance, chance.choice((1, 2, 5))))
            for _ in range(5):
                told = spoilt(chance, text)
                if self.check("course", told) is None:
                    rows = [line.split(" ") for line in told.split("\n")] if told else []
                    self.assertEqual(course_told(told), tuple(tuple(fraction_told(word) for word in row) for row in rows))
        for text, index in (("\n", 0), ("0 0\n", 4), ("0", 1), ("0 ", 2), ("0  0", 2), ("0 0 ", 3), ("0 0\n\n0 0", 4)):
            self.assertEqual(self.check("course", text), index)

    def test_what_is_no_string(self):
        for call in CALLS.values():
            for value in ODD_VALUES:
                if type(value) is not str:
                    with self.assertRaises(InvalidText) as caught:
                        call(value)
                    self.assertEqual((caught.exception.index, type(caught.exception.index)), (0, int))

    def test_long_strings(self):
        for text in ("x" * 20000, "start x " + "1" * 19000, "start x 0\n" * 1900, "0 0\n" * 4999 + "0 0", "1" * 20000):
            for kind in NETS:
                self.check(kind, text)
        text = shortest(line_program(30))
        many = text + "\nby x 1" * ((20000 - len(text)) // 7)
        self.assertIsNone(self.check("program", many))
        self.assertEqual(self.check("program", many + " "), len(many) + 1)

    def test_form_comes_ahead_of_what_it_means(self):
        self.assertEqual(self.check("program", "start x 0\nto x 0 feed 0\nto x 0 feed 0 y"), 38)
        self.assertEqual(self.check("limits", "x speed 0 rate 0 jump 0\nx"), 24)


def line_of(axes):
    """One step of a program of so many axes."""
    return ((((1, 1),) * axes, (1, 1), (0, 1), False),)


if __name__ == "__main__":
    unittest.main()
