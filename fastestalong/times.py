"""Times that a tool needs along a course, exactly."""

from fastestalong.courses import check_course, square_at
from fastestalong.errors import InvalidPart, Refused
from fastestalong.exact import NOUGHT, divided, is_less, opposite, power, reduced, subtracted, twice
from fastestalong.fractions import MOST_DIGITS, check_count, check_fraction, root
from fastestalong.lines import stretch
from fastestalong.moves import check_way
from fastestalong.roots import ONE, floor_at, gathered, sign_of


def straight_terms(begin, end):
    """The time from one member of a line to the next, as terms of roots."""
    length = subtracted(end[0], begin[0])
    change = subtracted(end[1], begin[1])
    if change == NOUGHT:
        return [(divided(length, end[1]), end[1])]
    # 1 divided by a sum of roots is their difference divided by that of the squares.
    factor = divided(twice(length), change)
    return [(factor, end[1]), (opposite(factor), begin[1])]


def time_terms(line):
    """The time along a line as terms of roots; Refused if the tool does not come on somewhere."""
    told = []
    for begin, end in zip(line, line[1:]):
        if begin[1] == NOUGHT and end[1] == NOUGHT:
            raise Refused("the square is 0 along a part of the way")
        told.extend(straight_terms(begin, end))
    return told


def check_stretch(course, low, high):
    """Raises InvalidCourse, then InvalidWay, of what are no course and two of its ways."""
    check_course(course)
    check_way(low, course[-1][0])
    check_way(high, course[-1][0])


def stretch_time(course, low, high):
    """The time from one way to another one, gathered; InvalidPart if the first is above the other."""
    if is_less(high, low):
        raise InvalidPart("the low way is above the high one")
    return gathered(time_terms(stretch(course, low, high)))


def exact_time(course, low, high):
    """The time from one way to another one if it is a fraction, else None."""
    check_stretch(course, low, high)
    number, terms = stretch_time(course, low, high)
    return None if terms else number


def told_time(course, low, high, digits):
    """The greatest multiple of 1 by 10 to the power digits that is not above the time."""
    check_stretch(course, low, high)
    check_count(digits, 0, MOST_DIGITS)
    scale = power(10, digits)
    return reduced(floor_at(stretch_time(course, low, high), scale), scale)


def sooner(course, other_course):
    """-1, 0 or 1 as the time of a whole course is less than that of the other one, the same, or greater."""
    check_course(course)
    check_course(other_course)
    less = [(opposite(factor), square) for factor, square in time_terms(other_course)]
    return sign_of(gathered(time_terms(course) + less))


def is_by(course, way, moment):
    """Whether the time from 0 to a way is at most a moment."""
    check_course(course)
    check_way(way, course[-1][0])
    check_fraction(moment)
    terms = time_terms(stretch(course, NOUGHT, way))
    return sign_of(gathered(terms + [(opposite(moment), ONE)])) <= 0


def pace(course, way, digits):
    """The greatest multiple of 1 by 10 to the power digits that is not above the speed at a way."""
    return root(square_at(course, way), digits)
