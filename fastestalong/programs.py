"""Programs of moves, and the limits of their axes."""

from fastestalong.errors import InvalidFraction, InvalidLimits, InvalidPart, InvalidProgram
from fastestalong.exact import added, is_less, multiplied
from fastestalong.fractions import is_fraction, is_integer

MOST_AXES = 3
MOST_STEPS = 30


def is_tuple_of(value, count):
    """Whether a value is a tuple of so many members."""
    return type(value) is tuple and len(value) == count


def is_above_nought(value):
    """Whether a value is a fraction above 0."""
    return is_fraction(value) and value[0] > 0


def is_from_nought(value):
    """Whether a value is a fraction from 0 on."""
    return is_fraction(value) and value[0] >= 0


def is_point(value):
    """Whether a value is a point."""
    if type(value) is not tuple or not 1 <= len(value) <= MOST_AXES:
        return False
    return all(is_fraction(part) for part in value)


def step_fault(ahead, step):
    """The place, within a step, of its first fault, None of a step that goes on from the point ahead."""
    if not is_tuple_of(step, 4):
        return ()
    point, feed, least, stop = step
    if not is_point(point) or len(point) != len(ahead) or point == ahead:
        return (0,)
    if not is_above_nought(feed):
        return (1,)
    if not is_from_nought(least) or is_less(feed, least):
        return (2,)
    if type(stop) is not bool:
        return (3,)
    return None


def program_fault(value):
    """The place of a value's first fault, None of a program."""
    if not is_tuple_of(value, 2):
        return ()
    start, steps = value
    if not is_point(start):
        return (0,)
    if type(steps) is not tuple or not 1 <= len(steps) <= MOST_STEPS:
        return (1,)
    ahead = start
    for index, step in enumerate(steps):
        place = step_fault(ahead, step)
        if place is not None:
            return (1, index) + place
        ahead = step[0]
    return None


def is_program(value):
    """Whether a value is a program."""
    return program_fault(value) is None


def check_program(program):
    """Raises InvalidProgram of what is no program."""
    place = program_fault(program)
    if place is not None:
        raise InvalidProgram(place)


def is_axis_limits(value):
    """Whether a value is the (speed, rate, jump) of an axis."""
    if not is_tuple_of(value, 3):
        return False
    speed, rate, jump = value
    return is_above_nought(speed) and is_above_nought(rate) and is_from_nought(jump)


def axes_fault(value, count):
    """The index of a value's first fault, None of limits of so many axes."""
    if not is_tuple_of(value, count):
        return 0
    for index, axis in enumerate(value):
        if not is_axis_limits(axis):
            return index
    return None


def limits_fault(program, value):
    """The index of a value's first fault, None of limits of the program."""
    return axes_fault(value, axis_count(program))


def is_limits(program, value):
    """Whether a value is limits of the program."""
    return limits_fault(program, value) is None


def check_limits(program, limits):
    """Raises InvalidProgram of what is no program, then InvalidLimits of what are no limits of it."""
    index = limits_fault(program, limits)
    if index is not None:
        raise InvalidLimits(index)


def axis_count(program):
    """How many axes a program has."""
    check_program(program)
    return len(program[0])


def path(program):
    """The points of a program, the start first."""
    check_program(program)
    start, steps = program
    return (start,) + tuple(step[0] for step in steps)


def manners(program):
    """The (feed, least, stop) of each move."""
    return [step[1:] for step in program[1]]


def program_through(points, told):
    """The program from the first point through all others, told the (feed, least, stop) of each move."""
    steps = tuple((point,) + manner for point, manner in zip(points[1:], told))
    return (points[0], steps)


def moved(program, shift):
    """The program with a shift added to each of its points."""
    count = axis_count(program)
    if not is_point(shift) or len(shift) != count:
        raise InvalidPart("a shift is a point of as many axes")
    points = [tuple(added(part, by) for part, by in zip(point, shift)) for point in path(program)]
    return program_through(points, manners(program))


def backwards(program):
    """The program of the path from its end to its start."""
    points = path(program)
    told = []
    # Backwards, a move ends where forwards the move ahead of it does.
    stop_ahead = False
    for feed, least, stop in manners(program):
        told.append((feed, least, stop_ahead))
        stop_ahead = stop
    return program_through(points[::-1], told[::-1])


def check_factor(factor):
    """Raises InvalidFraction of what is no fraction above 0."""
    if not is_above_nought(factor):
        raise InvalidFraction("a factor is a fraction above 0")


def scaled(numbers, factor):
    """The tuple of all these fractions, times the factor."""
    return tuple(multiplied(number, factor) for number in numbers)


def grown(program, factor):
    """The program with all its points, feeds and leasts times the factor."""
    check_program(program)
    check_factor(factor)
    points = [scaled(point, factor) for point in path(program)]
    told = [scaled((feed, least), factor) + (stop,) for feed, least, stop in manners(program)]
    return program_through(points, told)


def grown_limits(program, limits, factor):
    """The limits with all their speeds, rates and jumps times the factor."""
    check_limits(program, limits)
    check_factor(factor)
    return tuple(scaled(axis, factor) for axis in limits)


def check_order(program, order):
    """Raises InvalidProgram of what is no program, then InvalidPart of what is no sequence of all its axes."""
    count = axis_count(program)
    if not is_tuple_of(order, count) or not all(is_integer(axis) for axis in order):
        raise InvalidPart("an order is a tuple of the indexes of all axes")
    if sorted(order) != list(range(count)):
        raise InvalidPart("an order has each axis once")


def led(program, order):
    """The program whose axis k is the axis order[k] of this one."""
    check_order(program, order)
    points = [tuple(point[axis] for axis in order) for point in path(program)]
    return program_through(points, manners(program))


def led_limits(program, limits, order):
    """The limits whose axis k is the axis order[k] of these."""
    check_limits(program, limits)
    check_order(program, order)
    return tuple(limits[axis] for axis in order)
