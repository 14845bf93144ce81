"""The straight moves of a program: how long they are, where they lead, how fast they may be."""

from fastestalong.errors import InvalidWay
from fastestalong.exact import (
    NOUGHT, absolute, added, divided, is_less, largest, multiplied, smallest, squared, subtracted, twice,
)
from fastestalong.fractions import is_fraction
from fastestalong.programs import check_limits, path


def apart(one, other):
    """Along each axis the other one's part less the first one's."""
    return tuple(subtracted(to, at) for at, to in zip(one, other))


def distances(program):
    """Of each move its distances along the axes, signs kept."""
    points = path(program)
    return [apart(begin, end) for begin, end in zip(points, points[1:])]


def length_of(distance):
    """The length of a move with these distances along the axes."""
    return largest([absolute(part) for part in distance])


def lengths(program):
    """The length of each move."""
    return tuple(length_of(distance) for distance in distances(program))


def direction_of(distance):
    """The direction of a move with these distances along the axes."""
    length = length_of(distance)
    return tuple(divided(part, length) for part in distance)


def directions(program):
    """The direction of each move."""
    return tuple(direction_of(distance) for distance in distances(program))


def ways(program):
    """The ways of all points of the path, that of the start first."""
    told = [NOUGHT]
    for length in lengths(program):
        told.append(added(told[-1], length))
    return tuple(told)


def whole(program):
    """The way of the end."""
    return ways(program)[-1]


def check_way(way, end):
    """Raises InvalidWay of what is no fraction from 0 to the end."""
    if not is_fraction(way) or way[0] < 0 or is_less(end, way):
        raise InvalidWay("this is no way from the start to the end")


def move_at(program, way):
    """The index of the move to which a way belongs."""
    told = ways(program)
    check_way(way, told[-1])
    return len([joint for joint in told[1:-1] if not is_less(way, joint)])


def point_at(program, way):
    """The point of the path at a way."""
    index = move_at(program, way)
    along = subtracted(way, ways(program)[index])
    begin = path(program)[index]
    direction = directions(program)[index]
    return tuple(added(at, multiplied(part, along)) for at, part in zip(begin, direction))


def path_bounds(parts, bounds):
    """What the bounds of the axes let along the path: each by its axis' part, of axes with a part."""
    return [divided(bound, absolute(part)) for part, bound in zip(parts, bounds) if part != NOUGHT]


def axis_tops(program, limits):
    """The greatest speed that the axes let in each move, whatever its feed."""
    check_limits(program, limits)
    speeds = [axis[0] for axis in limits]
    return [smallest(path_bounds(direction, speeds)) for direction in directions(program)]


def capped(feeds, tops):
    """The cap of each move, told its feed and the greatest speed that the axes let."""
    return tuple(squared(smallest([feed, top])) for feed, top in zip(feeds, tops))


def caps(program, limits):
    """The greatest square that each move lets."""
    tops = axis_tops(program, limits)
    return capped([step[1] for step in program[1]], tops)


def pulls(program, limits):
    """The greatest rate at which the speed along the path changes in each move."""
    check_limits(program, limits)
    rates = [axis[1] for axis in limits]
    return tuple(smallest(path_bounds(direction, rates)) for direction in directions(program))


def swings(program, limits):
    """By how much the square can change along each move: twice the pull times the length."""
    return [twice(multiplied(pull, length)) for pull, length in zip(pulls(program, limits), lengths(program))]


def turn_cap(ahead, behind, jumps):
    """The greatest square that the jumps let between two directions, None of the same ones."""
    bounds = path_bounds(apart(ahead, behind), jumps)
    return squared(smallest(bounds)) if bounds else None


def turn_caps(program, limits):
    """The turn caps of the start, of each joint and of the end."""
    check_limits(program, limits)
    jumps = [axis[2] for axis in limits]
    along = directions(program)
    told = [NOUGHT]
    for step, ahead, behind in zip(program[1], along, along[1:]):
        told.append(NOUGHT if step[3] else turn_cap(ahead, behind, jumps))
    return tuple(told) + (NOUGHT,)
