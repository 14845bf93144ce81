"""Point [20], fact E: the console's answers."""

import random
import unittest
from fractions import Fraction

from fastestalong.console import Console
from fastestalong.courses import greatest
from fastestalong.drawn import profile
from fastestalong.errors import (
    CourseError, InvalidCount, InvalidLimits, InvalidPart, InvalidProgram, InvalidWay, Refused,
)
from fastestalong.fractions import fraction_text
from fastestalong.leasts import bar
from fastestalong.runs import Run
from fastestalong.texts import course_text, limits_text, program_text, shortest
from fastestalong.times import told_time
from samples import LIMITS, PROGRAM, line_program, number, pair, pairs, some_limits, some_number, some_program

FACTORS = [Fraction(1, 100), Fraction(1), Fraction(2), Fraction(1, 3), Fraction(5, 4)]
ASKED = ("here", "stand", "done", "rest", "journal", "text", "greatest", "bar", "time 3", "profile 20 4")


def desk_of(program, limits):
    """A console that is told a program and limits."""
    desk = Console()
    assert desk.execute("program\n" + program_text(program)) == ""
    assert desk.execute("limits\n" + limits_text(limits)) == ""
    return desk


def here_of(run):
    told = " ".join(fraction_text(part) for part in (run.way, run.square, run.factor))
    return told + " held" if run.held else told


def journal_of(run):
    return "\n".join(" ".join([entry[0]] + [fraction_text(part) for part in entry[1:]]) for entry in run.journal)


def answers_of(run):
    """What a console answers of a run to all that changes nothing."""
    course = greatest(run.program, run.limits)
    barred = bar(run.program, run.limits)
    return [
        here_of(run), fraction_text(run.stand()), course_text(run.done()), course_text(run.rest()), journal_of(run),
        program_text(run.program) + "\n" + limits_text(run.limits), course_text(course),
        "none" if barred is None else " ".join(fraction_text(way) for way in barred),
        fraction_text(told_time(course, (0, 1), course[-1][0], 3)), "\n".join(profile(course, 20, 4)),
    ]


def answers(desk):
    return [desk.execute(word) for word in ASKED]


def some_line(chance, run):
    """A command and the same of a run, as a call that tells the answer."""
    choice = chance.randrange(4)
    if choice == 0:
        factor = pair(chance.choice(FACTORS))
        return "feed " + fraction_text(factor), lambda: run.feed(factor) or ""
    if choice == 1:
        return "hold", lambda: run.hold() or ""
    if choice == 2:
        return "on", lambda: run.go_on() or ""
    low, high = number(run.way), number(run.stand())
    way = pair(low + (high - low) * some_number(chance, 0, 1))
    return "go " + fraction_text(way), lambda: run.go(way) or fraction_text(run.square)


class TestAnswers(unittest.TestCase):
    def check_alike(self, chance, desk, run, many):
        """Both are told so many lines, of which some are refused."""
        for _ in range(many):
            line, call = some_line(chance, run)
            try:
                told = call()
            except Refused:
                with self.assertRaises(Refused):
                    desk.execute(line)
                told = None
            if told is not None:
                self.assertEqual(desk.execute(line), told)
        self.assertEqual(answers(desk), answers_of(run))

    def programs(self, seed, many):
        chance = random.Random(seed)
        for _ in range(many):
            program = some_program(chance, None, chance.choice((1, 2, 3, 6)))
            yield chance, program, some_limits(chance, len(program[0]))

    def test_as_a_run(self):
        for chance, program, limits in self.programs(1, 60):
            desk, run = desk_of(program, limits), Run(program, limits)
            self.assertEqual(answers(desk), answers_of(run))
            for _ in range(3):
                self.check_alike(chance, desk, run, chance.randint(3, 8))
            for answer in answers(desk):
                self.assertIs(type(answer), str)
            self.assertEqual(desk.execute(command="here"), here_of(run))

    def test_of_a_second_console(self):
        for chance, program, limits in self.programs(2, 40):
            desk, run = desk_of(program, limits), Run(program, limits)
            self.check_alike(chance, desk, run, chance.choice((0, 4, 9)))
            other = Console()
            lines = desk.execute("text").split("\n")
            first = next(index for index, line in enumerate(lines) if line.startswith("x "))
            self.assertEqual(other.execute("program\n" + "\n".join(lines[:first])), "")
            self.assertEqual(other.execute("limits\n" + "\n".join(lines[first:])), "")
            journal = desk.execute("journal")
            way = desk.execute("here").split(" ")[0]
            self.assertEqual(other.execute(f"again {way}" + ("\n" + journal if journal else "")), "")
            self.assertEqual(answers(other), answers(desk))
            before = answers(other)
            self.check_alike(chance, desk, run, 5)
            self.assertEqual(answers(other), before)
            same = Run(program, limits)
            for entry in run.journal:
                same.go(entry[1])
                getattr(same, {"on": "go_on"}.get(entry[0], entry[0]))(*entry[2:])
            same.go(run.way)
            self.assertEqual(answers(desk), answers_of(same))

    def test_texts_that_tell_the_program_otherwise(self):
        for _, program, limits in self.programs(3, 30):
            desk = desk_of(program, limits)
            desk.execute("go 0")
            desk.execute("feed 0.5")
            self.assertEqual(desk.execute("program\n" + shortest(program)), "")
            desk.execute("limits\n" + limits_text(limits))
            self.assertEqual(answers(desk), answers_of(Run(program, limits)))

    def test_known_answers(self):
        desk = desk_of(PROGRAM, LIMITS)
        self.assertEqual(desk.execute("bar"), "7 7")
        self.assertEqual(desk.execute("time 0"), "5")
        self.assertEqual(desk.execute("time 3"), "5.787")
        self.assertEqual(desk.execute("greatest").split("\n")[1], "2 4")
        self.assertEqual(desk.execute("profile 1 1"), "+")
        self.assertEqual(desk.execute("here"), "0 0 1")
        self.assertEqual((desk.execute("done"), desk.execute("journal")), ("0 0", ""))
        self.assertEqual(desk.execute("go 1/3"), "2/3")
        self.assertEqual(desk.execute("feed 1/3"), "")
        self.assertEqual(desk.execute("hold"), "")
        self.assertEqual(desk.execute("on"), "")
        self.assertEqual(desk.execute("here"), "1/3 2/3 1/3")
        self.assertEqual(desk.execute("journal"), "feed 1/3 1/3\nhold 1/3\non 1/3")
        self.assertEqual(desk.execute("again 7\nfeed 1/3 1/3\nhold 1/3\non 1/3"), "")
        self.assertEqual((desk.execute("stand"), desk.execute("rest")), ("7", "7 0"))
        self.assertEqual(desk.execute("again 7"), "")
        self.assertEqual((desk.execute("journal"), desk.execute("done")), ("", desk.execute("greatest")))

    def test_another_program_takes_limits_and_run_away(self):
        desk = desk_of(PROGRAM, LIMITS)
        desk.execute("go 4")
        self.assertEqual(desk.execute("program\n" + program_text(PROGRAM)), "")
        for line in ASKED + ("go 4", "feed 1", "hold", "on", "again 4"):
            with self.assertRaises(Refused):
                desk.execute(line)
        desk.execute("limits\n" + limits_text(LIMITS))
        self.assertEqual(desk.execute("here"), "0 0 1")

    def test_other_limits_begin_the_run_anew(self):
        desk = desk_of(PROGRAM, LIMITS)
        desk.execute("feed 0.5")
        desk.execute("go 4")
        other = (pairs((3, 1, 1)), pairs((3, 2, 0)))
        self.assertEqual(desk.execute("limits\n" + limits_text(other)), "")
        self.assertEqual(answers(desk), answers_of(Run(PROGRAM, other)))

    def test_two_consoles_do_not_touch_one_another(self):
        one, other = desk_of(PROGRAM, LIMITS), desk_of(PROGRAM, LIMITS)
        before = answers(other)
        one.execute("go 3")
        one.execute("hold")
        self.assertEqual(answers(other), before)
        one.execute("program\nstart x 0\nto x 1 feed 1")
        self.assertEqual(answers(other), before)


class TestErrors(unittest.TestCase):
    def refused(self, desk, line, error, kept=None):
        with self.assertRaises(CourseError) as caught:
            desk.execute(line)
        self.assertIs(type(caught.exception), error, line)
        if kept is not None:
            field = "place" if error is InvalidProgram else "index"
            self.assertEqual(getattr(caught.exception, field), kept, line)

    def test_without_a_program(self):
        for line in ASKED + (
            "go 4", "feed 1", "hold", "on", "again 4", "limits\n" + limits_text(LIMITS), "limits\nx speed 0 rate 0 jump 0",
            "time 999", "go -1", "feed 9", "again -1\non 1",
        ):
            self.refused(Console(), line, Refused)
        desk = Console()
        self.refused(desk, "program\nstart x 0\nto x 0 feed 1", InvalidProgram, (1, 0, 0))
        self.refused(desk, "limits\n" + limits_text(LIMITS), Refused)

    def test_without_limits(self):
        desk = Console()
        desk.execute("program\n" + program_text(PROGRAM))
        for line in ASKED + ("go 4", "feed 1", "hold", "on", "again 4", "time 999", "go -1", "profile 0 0"):
            self.refused(desk, line, Refused)
        self.refused(desk, "limits\nx speed 0 rate 1 jump 1", InvalidLimits, 0)
        self.refused(desk, "limits\nx speed 1 rate 1 jump 1", InvalidLimits, 0)
        self.refused(desk, "here", Refused)
        self.assertEqual(desk.execute("limits\n" + limits_text(LIMITS)), "")

    def unchanged(self, line, error, kept=None):
        desk = desk_of(PROGRAM, LIMITS)
        desk.execute("go 1")
        desk.execute("feed 0.5")
        before = answers(desk)
        self.refused(desk, line, error, kept)
        self.assertEqual(answers(desk), before)

    def test_programs(self):
        for text, place in (
            ("start x 0\nto x 0 feed 1", (1, 0, 0)), ("start x 0\nto x 1 feed 1\nto x 2 feed 0", (1, 1, 1)),
            ("start x 0\nto x 1 feed 1 least 3", (1, 0, 2)), (program_text(line_program(30)) + "\nto x 99", (1,)),
        ):
            self.unchanged("program\n" + text, InvalidProgram, place)

    def test_limits(self):
        good = "speed 1 rate 1 jump 1"
        for text, index in (
            (f"x {good}", 0), (f"x {good}\ny {good}\nz {good}", 0), (f"x {good}\ny speed 0 rate 1 jump 1", 1),
            (f"x {good}\ny {good}\nz speed 1 rate 0 jump 1", 2), (f"x {good}\ny speed 1 rate 1 jump -1\nz {good}", 1),
            ("x speed -1 rate 1 jump 1", 0),
        ):
            self.unchanged("limits\n" + text, InvalidLimits, index)

    def test_what_the_calls_raise(self):
        for line, error in (
            ("go 0.5", InvalidWay), ("go -1", InvalidWay), ("go 7.1", InvalidWay), ("feed 0", InvalidPart),
            ("feed 2.1", InvalidPart), ("feed -1", InvalidPart), ("feed 1/101", InvalidPart), ("on", Refused),
            ("time 31", InvalidCount), ("time 999", InvalidCount), ("profile 0 1", InvalidCount),
            ("profile 121 1", InvalidCount), ("profile 1 0", InvalidCount), ("profile 1 61", InvalidCount),
            ("again 8", InvalidWay), ("again -1", InvalidWay), ("again 1\non 1", InvalidPart),
            ("again 1\nhold 1\nhold 1", InvalidPart), ("again 1\nfeed 1 3", InvalidPart), ("again 1\nhold 7", InvalidPart),
            ("again 1\nhold 2", InvalidWay), ("again 4\nhold 1", InvalidWay), ("again -1\nfeed 2 1\nfeed 1 1", InvalidPart),
        ):
            self.unchanged(line, error)
        desk = desk_of(PROGRAM, LIMITS)
        self.assertEqual(desk.execute("hold"), "")
        before = answers(desk)
        self.refused(desk, "hold", Refused)
        self.refused(desk, "go 1", Refused)
        self.assertEqual(answers(desk), before)
        self.assertEqual(desk.execute("time 30"), fraction_text(told_time(greatest(PROGRAM, LIMITS), (0, 1), (7, 1), 30)))
        self.assertEqual(len(desk.execute("profile 120 60")), 121 * 60 - 1)


if __name__ == "__main__":
    unittest.main()
