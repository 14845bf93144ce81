"""A console: commands as texts in, answers as texts out."""

from fastestalong.commands import read_command
from fastestalong.courses import greatest
from fastestalong.drawn import profile
from fastestalong.errors import Refused
from fastestalong.exact import NOUGHT
from fastestalong.leasts import bar
from fastestalong.numerals import number_text
from fastestalong.programs import check_program
from fastestalong.runs import Run, run_again
from fastestalong.texts import check_axes, course_text, limits_text, program_text
from fastestalong.times import told_time


def numbers_text(numbers):
    """The texts of numbers, with a space between two."""
    return " ".join([number_text(number) for number in numbers])


def gone(run, given):
    """The square at a way to which the run goes."""
    run.go(given[0])
    return number_text(run.square)


def fed(run, given):
    """The run has another factor."""
    run.feed(given[0])
    return ""


def halted(run, given):
    """The run is held."""
    run.hold()
    return ""


def led_on(run, given):
    """The run goes on."""
    run.go_on()
    return ""


def here_text(run, given):
    """Where the run is."""
    told = numbers_text([run.way, run.square, run.factor])
    return told + " held" if run.held else told


def stand_text(run, given):
    """Where the run comes to stand."""
    return number_text(run.stand())


def done_text(run, given):
    """What the run has done."""
    return course_text(run.done())


def rest_text(run, given):
    """What the run has ahead of it."""
    return course_text(run.rest())


def journal_text(run, given):
    """The journal of the run."""
    return "\n".join([entry[0] + " " + numbers_text(entry[1:]) for entry in run.journal])


def both_text(run, given):
    """The program and the limits."""
    return program_text(run.program) + "\n" + limits_text(run.limits)


def greatest_text(run, given):
    """The greatest course."""
    return course_text(greatest(run.program, run.limits))


def bar_text(run, given):
    """What bars a least."""
    told = bar(run.program, run.limits)
    return "none" if told is None else numbers_text(told)


def time_text(run, given):
    """The time of the greatest course."""
    course = greatest(run.program, run.limits)
    return number_text(told_time(course, NOUGHT, course[-1][0], given[0]))


def profile_text(run, given):
    """The picture of the greatest course."""
    return "\n".join(profile(greatest(run.program, run.limits), given[0], given[1]))


ANSWERS = {
    "go": gone, "feed": fed, "hold": halted, "on": led_on, "here": here_text, "stand": stand_text, "done": done_text,
    "rest": rest_text, "journal": journal_text, "text": both_text, "greatest": greatest_text, "bar": bar_text,
    "time": time_text, "profile": profile_text,
}


class Console:
    """Keeps a program, and a run of it once there are limits."""

    def __init__(self):
        self._kept = None
        self._run = None

    def execute(self, command):
        """The answer to a command."""
        word, given = read_command(command)
        if word == "program":
            return self._take_program(given[0])
        if self._kept is None:
            raise Refused("there is no program")
        if word == "limits":
            return self._take_limits(given[0])
        if self._run is None:
            raise Refused("there are no limits")
        if word == "again":
            return self._take_run(given[0], given[1])
        answer = ANSWERS[word]
        return answer(self._run, given)

    def _take_program(self, program):
        """Another program, without limits."""
        check_program(program)
        self._kept = program
        self._run = None
        return ""

    def _take_limits(self, limits):
        """A new run of the program under limits."""
        # First what are no limits at all; those of another number of axes the run refuses.
        check_axes(limits, len(limits))
        self._run = Run(self._kept, limits)
        return ""

    def _take_run(self, way, journal):
        """A run that has done what a journal tells, and has gone to a way."""
        self._run = run_again(self._run.program, self._run.limits, journal, way)
        return ""
