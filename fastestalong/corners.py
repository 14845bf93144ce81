"""Corners of programs: cut by a straight move, and rounded all at once."""

from fastestalong.errors import InvalidFraction, InvalidPart, Refused, TooMany
from fastestalong.exact import absolute, added, divided, is_less, largest, multiplied, opposite, smallest, twice
from fastestalong.fractions import check_fraction, is_integer
from fastestalong.moves import apart, directions, lengths
from fastestalong.programs import MOST_STEPS, is_above_nought, path

HALF = (1, 2)
THIRD = (1, 3)


def is_corner(ahead, behind, stop):
    """Whether a joint of moves with two directions is a corner."""
    opposites = tuple(opposite(part) for part in ahead)
    return not stop and behind != ahead and behind != opposites


def corners(program):
    """The indexes of all corners, ascending."""
    along = directions(program)
    told = []
    for index, (ahead, behind) in enumerate(zip(along, along[1:])):
        if is_corner(ahead, behind, program[1][index][3]):
            told.append(index)
    return tuple(told)


def check_corner(program, corner):
    """Raises InvalidProgram of what is no program, then InvalidPart of what is no corner of it."""
    found = corners(program)
    if not is_integer(corner) or corner not in found:
        raise InvalidPart("this is no corner")


def sharpness(program, corner):
    """The greatest distance, along an axis, between the two directions of a corner."""
    ahead, behind = directions(program)[corner:corner + 2]
    return largest([absolute(part) for part in apart(ahead, behind)])


def check_amount(program, corner, amount):
    """Raises the errors of these three of what are no program, corner of it and amount by which it can be cut."""
    check_corner(program, corner)
    check_fraction(amount)
    if amount[0] <= 0 or not all(is_less(amount, length) for length in lengths(program)[corner:corner + 2]):
        raise Refused("an amount is above 0 and less than the length of each of both moves")


def off(program, corner, amount):
    """How far a corner is off the path, cut by an amount."""
    check_amount(program, corner, amount)
    return multiplied(multiplied(HALF, amount), sharpness(program, corner))


def beside(point, direction, way):
    """The point that is a way along the direction from another one."""
    return tuple(added(part, multiplied(along, way)) for part, along in zip(point, direction))


def chord(ahead, behind, point):
    """The step to a point of the chord between two steps."""
    return (point, smallest([ahead[1], behind[1]]), smallest([ahead[2], behind[2]]), False)


def cut_by(program, amounts):
    """The program with its corners cut, told a dict of the amount of each of them that is cut."""
    start, steps = program
    points = path(program)
    along = directions(program)
    told = []
    for index, step in enumerate(steps):
        if index not in amounts:
            told.append(step)
            continue
        point, amount, behind = points[index + 1], amounts[index], steps[index + 1]
        told.append((beside(point, along[index], opposite(amount)),) + step[1:])
        told.append(chord(step, behind, beside(point, along[index + 1], amount)))
    return (start, tuple(told))


def cut(program, corner, amount):
    """The program with a corner cut by an amount."""
    check_amount(program, corner, amount)
    if len(program[1]) == MOST_STEPS:
        raise TooMany(MOST_STEPS)
    return cut_by(program, {corner: amount})


def check_tolerance(tolerance):
    """Raises InvalidFraction of what is no fraction above 0."""
    if not is_above_nought(tolerance):
        raise InvalidFraction("a tolerance is a fraction above 0")


def room_of(program, corner, tolerance):
    """The room of a corner, of what are known to be a program, a corner of it and a tolerance."""
    thirds = [multiplied(length, THIRD) for length in lengths(program)[corner:corner + 2]]
    return smallest(thirds + [divided(twice(tolerance), sharpness(program, corner))])


def room(program, corner, tolerance):
    """The greatest amount by which a corner is off by at most a tolerance, and at most a third of each length."""
    check_corner(program, corner)
    check_tolerance(tolerance)
    return room_of(program, corner, tolerance)


def rounded(program, tolerance):
    """The program with all its corners cut by their rooms."""
    found = corners(program)
    check_tolerance(tolerance)
    if len(program[1]) + len(found) > MOST_STEPS:
        raise TooMany(MOST_STEPS)
    return cut_by(program, {corner: room_of(program, corner, tolerance) for corner in found})
