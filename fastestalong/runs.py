"""Runs: a tool on its way along a program, with another feed, hold, and a journal of what it was told."""

from fastestalong.errors import CourseError, InvalidPart, InvalidWay, Refused
from fastestalong.exact import NOUGHT, is_less
from fastestalong.fractions import is_fraction
from fastestalong.goals import Goal, Track, halted
from fastestalong.lines import straightened, stretch
from fastestalong.moves import check_way
from fastestalong.programs import check_limits

ONE = (1, 1)
LEAST_FACTOR = (1, 100)
GREATEST_FACTOR = (2, 1)
MEMBERS = {"feed": 3, "hold": 2, "on": 2}


def is_factor(value):
    """Whether a value is a factor."""
    return is_fraction(value) and not is_less(value, LEAST_FACTOR) and not is_less(GREATEST_FACTOR, value)


class Run:
    """A tool that runs along a program under limits.

    Where it is told something changes nothing by itself: from each way on it
    comes to its goal, or to a stand, as fast as may be, and it does so again
    from each way that it comes to. So the line that it has done is all that
    has to be kept of its way up to here.
    """

    def __init__(self, program, limits):
        check_limits(program, limits)
        self._program = program
        self._limits = limits
        self._track = Track(program, limits)
        self._goal = Goal(self._track, ONE)
        self._factor = ONE
        self._held = False
        self._entries = []
        self._line = [(NOUGHT, NOUGHT)]

    @property
    def program(self):
        """The program."""
        return self._program

    @property
    def limits(self):
        """The limits."""
        return self._limits

    @property
    def way(self):
        """The way at which the tool is."""
        return self._line[-1][0]

    @property
    def square(self):
        """The square that the tool has."""
        return self._line[-1][1]

    @property
    def factor(self):
        """The factor that was told last."""
        return self._factor

    @property
    def held(self):
        """Whether the tool is held."""
        return self._held

    @property
    def journal(self):
        """All orders, in sequence."""
        return tuple(self._entries)

    def go(self, way):
        """The tool goes to a way."""
        check_way(way, self._end())
        here = self.way
        if is_less(way, here):
            raise InvalidWay("the tool is beyond this way")
        line = self._line_to(way)
        if is_less(line[-1][0], way):
            raise Refused("the tool is held and stands ahead of this way")
        self._line[-2:] = straightened(self._line[-2:] + stretch(line, here, way)[1:])

    def feed(self, factor):
        """Another factor from here on."""
        if not is_factor(factor):
            raise InvalidPart("a factor is a fraction from 1/100 to 2")
        if factor != self._factor:
            self._goal = Goal(self._track, factor)
        self._factor = factor
        self._entries.append(("feed", self.way, factor))

    def hold(self):
        """The tool comes to stand as fast as may be."""
        if self._held:
            raise Refused("the tool is held")
        if self.way == self._end():
            raise Refused("the tool is at the end of the path")
        self._held = True
        self._entries.append(("hold", self.way))

    def go_on(self):
        """The tool is not held any more."""
        if not self._held:
            raise Refused("the tool is not held")
        self._held = False
        self._entries.append(("on", self.way))

    def done(self):
        """The line that the tool has done up to its way."""
        return tuple(self._line)

    def rest(self):
        """The line that the tool has ahead of it if nothing else is told."""
        return tuple(straightened(self._line_to(self._end())))

    def stand(self):
        """The way at which the tool comes to its last stand if nothing else is told."""
        return self._line_to(self._end())[-1][0]

    def _end(self):
        """The whole of the program."""
        return self._track.joints[-1]

    def _line_to(self, way):
        """The line from here on, up to a way or beyond it; of a held tool up to its stand."""
        if self._held:
            return halted(self._track, self._line[-1])
        return self._goal.followed(self._line[-1], way)


def is_entry(value):
    """Whether a value has the form of a journal's entry, whatever its way and factor."""
    if type(value) is not tuple or len(value) == 0 or type(value[0]) is not str:
        return False
    return MEMBERS.get(value[0]) == len(value)


def obey(run, entry):
    """The run does what an entry of a journal tells."""
    word = entry[0]
    run.go(entry[1])
    if word == "feed":
        run.feed(entry[2])
    elif word == "hold":
        run.hold()
    else:
        run.go_on()


def run_again(program, limits, journal, way):
    """A run that has done all that a journal tells, and has gone to a way."""
    run = Run(program, limits)
    if type(journal) is not tuple or not all(is_entry(entry) for entry in journal):
        raise InvalidPart("this is no journal")
    try:
        for entry in journal:
            obey(run, entry)
    except CourseError:
        raise InvalidPart("no run has such a journal")
    try:
        run.go(way)
    except Refused:
        raise InvalidWay("the tool is held and stands ahead of this way")
    return run
