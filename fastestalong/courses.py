"""Courses: the square of the speed over the way, the greatest one of a program, and whether one keeps it."""

from fastestalong.errors import InvalidCourse, Refused
from fastestalong.exact import (
    NOUGHT, absolute, added, divided, is_less, multiplied, opposite, smallest, squared, subtracted, twice,
)
from fastestalong.fractions import is_fraction
from fastestalong.lines import bends, refined, sides, square_on
from fastestalong.moves import caps, check_way, lengths, pulls, swings, turn_caps, ways
from fastestalong.programs import is_from_nought, is_tuple_of


def is_member(value):
    """Whether a value is the (way, square) of some course."""
    return is_tuple_of(value, 2) and is_fraction(value[0]) and is_from_nought(value[1])


def course_fault(value):
    """The index of a value's first member at fault, None of a course."""
    if type(value) is not tuple or len(value) == 0:
        return 0
    for index, member in enumerate(value):
        if not is_member(member):
            return index
        way = member[0]
        if index == 0 and way != NOUGHT:
            return index
        if index > 0 and not is_less(value[index - 1][0], way):
            return index
    return None


def is_course(value):
    """Whether a value is a course."""
    return course_fault(value) is None


def check_course(course):
    """Raises InvalidCourse of what is no course."""
    index = course_fault(course)
    if index is not None:
        raise InvalidCourse(index)


def bounds_at_joints(along, turns):
    """The joint caps of the start, of each joint and of the end, told the caps of the moves and the turn caps."""
    told = [NOUGHT]
    for ahead, behind, turn in zip(along, along[1:], turns[1:]):
        told.append(smallest([ahead, behind] if turn is None else [ahead, behind, turn]))
    return told + [NOUGHT]


def joint_caps(program, limits):
    """The joint caps of the start, of each joint and of the end."""
    return bounds_at_joints(caps(program, limits), turn_caps(program, limits))


def led_on(bounds, changes):
    """The greatest squares within bounds that, from one to the next, grow by no more than these changes."""
    told = bounds[:1]
    for bound, change in zip(bounds[1:], changes):
        told.append(smallest([bound, added(told[-1], change)]))
    return told


def joint_squares(bounds, changes):
    """The greatest squares within bounds that, from one to the next, change by no more than these changes."""
    onwards = led_on(bounds, changes)
    return led_on(onwards[::-1], changes[::-1])[::-1]


def move_pieces(begin, length, end_square, cap, slope):
    """The pieces (way, square, slope) of the greatest line along a move from a member on: below the cap, no steeper."""
    way, square = begin
    rising = (way, square, slope)
    # Counted from the move's begin on, where numbers are shorter than the ways.
    top = divided(subtracted(cap, square), slope)
    bottom = subtracted(length, divided(subtracted(cap, end_square), slope))
    if not is_less(bottom, top):
        return [rising, (added(way, top), cap, NOUGHT), (added(way, bottom), cap, opposite(slope))]
    # The two lines meet in the middle between the ways at which each of them would come to the cap.
    middle = divided(added(top, bottom), (2, 1))
    return [rising, (added(way, middle), added(square, multiplied(slope, middle)), opposite(slope))]


def greatest_within(program, limits, bounds):
    """The greatest course that keeps the program leasts aside, within bounds at the start, the joints and the end."""
    squares = joint_squares(bounds, swings(program, limits))
    members = list(zip(ways(program), squares))
    slopes = [twice(pull) for pull in pulls(program, limits)]
    pieces = []
    for begin, length, square, cap, slope in zip(
        members, lengths(program), squares[1:], caps(program, limits), slopes,
    ):
        pieces.extend(move_pieces(begin, length, square, cap, slope))
    return bends(pieces, members[-1])


def greatest(program, limits):
    """The greatest course that keeps the program, leasts aside."""
    return greatest_within(program, limits, joint_caps(program, limits))


def turn_fault(line, joints, bounds):
    """("turn", way) of the first joint at which the line is above its bound, None without one."""
    squares = {way: square for way, square in line}
    for way, bound in zip(joints, bounds):
        if is_less(bound, squares[way]):
            return ("turn", way)
    return None


def word_of(begin, end, cap, least, slope):
    """The word of the first fault of a line from one member to the next, None without one."""
    squares = [begin[1], end[1]]
    if any(is_less(cap, square) for square in squares):
        return "cap"
    if any(is_less(square, least) for square in squares):
        return "least"
    change = absolute(subtracted(end[1], begin[1]))
    if is_less(multiplied(slope, subtracted(end[0], begin[0])), change):
        return "pull"
    if squares == [NOUGHT, NOUGHT]:
        return "still"
    return None


def stretch_fault(line, joints, bounds):
    """The (word, way) of the first stretch at fault, told the (cap, least square, slope) of each move.

    The line has a member at each joint.
    """
    move = 0
    for begin, end in zip(line, line[1:]):
        if begin[0] == joints[move + 1]:
            move += 1
        cap, least, slope = bounds[move]
        word = word_of(begin, end, cap, least, slope)
        if word is not None:
            return (word, begin[0])
    return None


def judged(program, limits, course):
    """The (word, way) of the first fault of a course of the program, None if it keeps it."""
    bounds = joint_caps(program, limits)
    check_course(course)
    joints = ways(program)
    if course[-1][0] != joints[-1]:
        raise InvalidCourse(len(course) - 1)
    line = refined(course, joints)
    leasts = [squared(step[2]) for step in program[1]]
    slopes = [twice(pull) for pull in pulls(program, limits)]
    turn = turn_fault(line, joints, bounds)
    if turn is not None:
        return turn
    return stretch_fault(line, joints, list(zip(caps(program, limits), leasts, slopes)))


def square_at(course, way):
    """The square of a course at a way."""
    check_course(course)
    check_way(way, course[-1][0])
    return square_on(course, way)


def is_below(course, other_course):
    """Whether a course is at no way above the other one."""
    check_course(course)
    check_course(other_course)
    if course[-1][0] != other_course[-1][0]:
        raise Refused("the courses have unlike last ways")
    return all(side <= 0 for _, side in sides(course, other_course))
