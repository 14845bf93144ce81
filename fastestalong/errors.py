"""The errors that the package raises; each of them is a CourseError."""


class CourseError(ValueError):
    """Any error of the package."""


class InvalidFraction(CourseError):
    """A value is not a fraction, or not one that the call takes."""


class InvalidWay(CourseError):
    """A value is not a way along the path."""


class InvalidIndex(CourseError):
    """A value is not the index of an axis."""


class InvalidCount(CourseError):
    """A value is not an integer within the bounds of the call."""


class InvalidPart(CourseError):
    """A value is not the part that the call takes."""


class Refused(CourseError):
    """What is asked for is not let as things are."""


class InvalidProgram(CourseError):
    """A value is no program; place leads to its first fault."""

    def __init__(self, place):
        self.place = place


class InvalidLimits(CourseError):
    """A value is no limits; index is that of the first axis at fault."""

    def __init__(self, index):
        self.index = index


class InvalidCourse(CourseError):
    """A value is no course; index is that of its first member at fault."""

    def __init__(self, index):
        self.index = index


class InvalidText(CourseError):
    """A value is no such text; index is that of the first sign at fault."""

    def __init__(self, index):
        self.index = index


class InvalidCommand(CourseError):
    """A value is no command; index is that of the first sign at fault."""

    def __init__(self, index):
        self.index = index


class TooMany(CourseError):
    """There are more things than are let; count tells how many."""

    def __init__(self, count):
        self.count = count


class Unknown(CourseError):
    """A word has no meaning here."""

    def __init__(self, word):
        self.word = word


class Twice(CourseError):
    """A word has a meaning here already."""

    def __init__(self, word):
        self.word = word
