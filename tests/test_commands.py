"""Point [20]: commands that are none, and the index of the first sign at which no command goes on."""

import random
import unittest

from fastestalong.console import Console
from fastestalong.errors import CourseError, InvalidCommand, Refused
from fastestalong.texts import limits_text, program_text
from grammar import COMMAND, Net, spoilt
from samples import LIMITS, ODD_VALUES, PROGRAM, some_limits, some_program
from test_console import answers, desk_of

NET = Net(COMMAND)
SIMPLE = ["hold", "on", "here", "stand", "done", "rest", "journal", "text", "greatest", "bar"]
ALL = SIMPLE + [
    "go 4", "go 1/3", "feed 0.5", "time 7", "time 100", "profile 20 4", "profile 7 13", "again 5", "again 5.5\nhold 4",
    "again 5\nfeed 4 0.5\nhold 5\non 5", "program\nstart x 0\nto x 10 feed 2", "limits\nx speed 9 rate 1 jump 0",
]
SIGNS = "abdefghijlmnoprstxy 0159-./\n"


def index_of(desk, command):
    """The index of InvalidCommand, None without it."""
    try:
        desk.execute(command)
    except InvalidCommand as fault:
        assert type(fault.index) is int
        return fault.index
    except CourseError:
        return None
    return None


class TestCommands(unittest.TestCase):
    def check(self, command):
        """Of a console without a program; whether it is a command, and where not."""
        index = NET.fault(command)
        self.assertEqual(index_of(Console(), command), index, command)
        return index

    def test_each_command(self):
        for command in ALL:
            self.assertIsNone(self.check(command))

    def test_one_sign_otherwise(self):
        for command in ALL:
            for at in range(len(command) + 1):
                self.check(command[:at])
                self.check(command[:at] + command[at + 1:])
                for sign in SIGNS:
                    self.check(command[:at] + sign + command[at:])
                    self.check(command[:at] + sign + command[at + 1:])

    def test_a_sign_too_many(self):
        for command in SIMPLE:
            for sign in (" ", "\n", "x", " 1", "s"):
                self.assertEqual(self.check(command + sign), len(command))
            for sign in (" ", "\n", "x", "1"):
                self.assertEqual(self.check(sign + command), 0)
        for command in ("again 5", "again 5\nhold 4"):
            self.assertEqual(self.check(command + " "), len(command))
            self.assertEqual(self.check(command + "\n"), len(command) + 1)

    def test_counts(self):
        for text, index in (
            ("time ", 5), ("time", 4), ("time  1", 5), ("time 00", 6), ("time 01", 6), ("time 007", 6), ("time 1234", 8),
            ("time -1", 5), ("time 1.0", 6), ("time 1/3", 6), ("time 3 ", 6), ("profile 1", 9), ("profile 1 ", 10),
            ("profile 01 1", 9), ("profile 1 02", 11), ("profile 1 1 1", 11), ("profile 1000 1", 11), ("profile 1 1000", 13),
            ("profile", 7), ("profile 1  1", 10), ("time 0", None), ("time 999", None), ("profile 0 0", None),
            ("profile 999 100", None), ("time x", 5),
        ):
            self.assertEqual(self.check(text), index, text)

    def test_numbers(self):
        for text, index in (
            ("go 3/4", 6), ("go 01", 4), ("go -0", 5), ("go 1.50", 7), ("go ", 3), ("go", 2), ("go 1 ", 4), ("go .5", 3),
            ("feed 2/4", 8), ("feed 1/", 7), ("again 1.0", 9), ("again 1\nfeed 1", 14), ("again 1\nfeed 1 2/4", 18),
            ("again 1\nhold 01", 14), ("again 1\ngo 1", 8), ("again 1\nhold", 12), ("again\nhold 1", 5), ("go 1-1", 4),
            ("again 1\nhold 1 1", 14), ("again 1\non 1\n\non 1", 13), ("go 1/3/", 6), ("go 5/7.", 6),
        ):
            self.assertEqual(self.check(text), index, text)

    def test_words(self):
        for text, index in (
            ("", 0), ("g", 1), ("goo", 2), ("gr", 2), ("great", 5), ("Go 1", 0), ("h", 1), ("he", 2), ("held", 2),
            ("holds", 4), ("prog", 4), ("program", 7), ("program ", 7), ("program\n", 8), ("profiles", 7), ("te", 2),
            ("ti", 2), ("th", 1), ("o", 1), ("off", 1), ("limits", 6), ("limits\n", 7), ("again", 5), ("stop", 2),
            ("program\r\n", 7), ("program\nstart y", 14), ("program\nstart x 0\nto x 1", 24), ("limits\nx rate", 9),
        ):
            self.assertEqual(self.check(text), index, text)

    def test_spoilt_texts(self):
        chance = random.Random(1)
        for _ in range(150):
            program = some_program(chance, None, chance.choice((1, 2, 4)))
            limits = some_limits(chance, len(program[0]))
            for text in (
                "program\n" + program_text(program), "limits\n" + limits_text(limits),
                "again 5\nfeed 1/3 2\nhold 4.5\non 4.5\nfeed 5 1/7",
            ):
                for _ in range(4):
                    self.check(spoilt(chance, text))

    def test_with_a_program_and_limits(self):
        chance = random.Random(2)
        desk = desk_of(PROGRAM, LIMITS)
        desk.execute("go 1")
        desk.execute("feed 0.5")
        before = answers(desk)
        for _ in range(400):
            command = spoilt(chance, chance.choice(ALL))
            index = NET.fault(command)
            if index is not None:
                self.assertEqual(index_of(desk, command), index, command)
        self.assertEqual(answers(desk), before)

    def test_what_is_no_string(self):
        for desk in (Console(), desk_of(PROGRAM, LIMITS)):
            for value in ODD_VALUES:
                if type(value) is not str:
                    with self.assertRaises(InvalidCommand) as caught:
                        desk.execute(value)
                    self.assertEqual((caught.exception.index, type(caught.exception.index)), (0, int))

    def test_form_comes_ahead_of_refused(self):
        for command in ("limits\nx speed", "go", "again 1\n", "program\nstart x 0"):
            with self.assertRaises(InvalidCommand):
                Console().execute(command)
        with self.assertRaises(Refused):
            Console().execute("limits\nx speed 0 rate 0 jump 0")

    def test_long_commands(self):
        for command in ("x" * 20000, "go " + "1" * 19000, "again 1\n" + "hold 1\n" * 2000, "program\n" + "start x 0\n" * 1900):
            self.check(command)


if __name__ == "__main__":
    unittest.main()
