"""Pulses that move the axes along a program by sizes, and the counters that they lead to."""

from fastestalong.errors import InvalidPart, TooMany
from fastestalong.exact import NOUGHT, absolute, added, divided, is_less, multiplied, reduced, smallest, subtracted
from fastestalong.fractions import is_integer
from fastestalong.moves import check_way, directions, point_at, ways
from fastestalong.programs import check_program, is_above_nought, is_tuple_of, path

MOST_PULSES = 5000


def check_sizes(program, sizes):
    """Raises InvalidProgram of what is no program, then InvalidPart of what are no sizes of its axes."""
    check_program(program)
    if not is_tuple_of(sizes, len(program[0])) or not all(is_above_nought(size) for size in sizes):
        raise InvalidPart("sizes are a fraction above 0 for each axis")


def near_counters(number, size):
    """The least and the greatest counter to which an axis is near at a number."""
    top, bottom = divided(number, size)
    return (-((bottom - 2 * top) // (2 * bottom)), (2 * top + bottom) // (2 * bottom))


def counter_on(counter, number, size):
    """The counter of an axis that goes on from this one straight to a number."""
    low, high = near_counters(number, size)
    return min(max(counter, low), high)


def counter_rows(points, sizes):
    """The counters at the start and at each point of the path behind it, all pulses with ways below counted."""
    rows = [[near_counters(number, size)[0] for number, size in zip(points[0], sizes)]]
    for point in points[1:]:
        rows.append([counter_on(counter, number, size) for counter, number, size in zip(rows[-1], point, sizes)])
    return rows


def leg_of(number, part, size, counter, end_counter):
    """The pulses of an axis in a move as (way of the first one from the move's begin on, way between two, count, turn).

    The axis begins at the number; its part of the direction is not 0 if there are any pulses.
    """
    count = abs(end_counter - counter)
    if count == 0:
        return (NOUGHT, NOUGHT, 0, 0)
    turn = 1 if end_counter > counter else -1
    level = multiplied(size, reduced(2 * counter + turn, 2))
    speed = absolute(part)
    return (divided(absolute(subtracted(level, number)), speed), divided(size, speed), count, turn)


def legs(program, sizes):
    """Of each move the leg of each axis."""
    points = path(program)
    rows = counter_rows(points, sizes)
    told = []
    for point, direction, row, end_row in zip(points, directions(program), rows, rows[1:]):
        told.append([leg_of(*given) for given in zip(point, direction, sizes, row, end_row)])
    return told


def counted_legs(program, sizes):
    """The legs; TooMany if they have too many pulses."""
    check_sizes(program, sizes)
    told = legs(program, sizes)
    count = sum(leg[2] for row in told for leg in row)
    if count > MOST_PULSES:
        raise TooMany(count)
    return told


def leg_pulses(leg, axis):
    """The pulses of a leg, their ways from the move's begin on."""
    way, step, count, turn = leg
    told = []
    for _ in range(count):
        told.append((way, axis, turn))
        way = added(way, step)
    return told


def merged(rows, others):
    """Two lists of pulses, each by way, as one; of one way those of the first list come first."""
    told = []
    index = 0
    for row in rows:
        while index < len(others) and is_less(others[index][0], row[0]):
            told.append(others[index])
            index += 1
        told.append(row)
    return told + others[index:]


def pulses(program, sizes):
    """All pulses (way, axis, turn), by way, those of one way by axis."""
    told = []
    rows = counted_legs(program, sizes)
    for begin, row in zip(ways(program), rows):
        along = []
        for axis, leg in enumerate(row):
            along = merged(along, leg_pulses(leg, axis))
        told.extend([(added(begin, way), axis, turn) for way, axis, turn in along])
    return tuple(told)


def counts_at(program, sizes, way):
    """The counters of the axes behind all pulses with ways below a way."""
    check_sizes(program, sizes)
    joints = ways(program)
    check_way(way, joints[-1])
    points = [point for joint, point in zip(joints, path(program)) if is_less(joint, way)]
    return tuple(counter_rows(points + [point_at(program, way)], sizes)[-1])


def least_gap(begins, row):
    """The least way between two neighbouring pulses of an axis, told its leg in each move; None without two."""
    told = []
    last = None
    for begin, (way, step, count, _) in zip(begins, row):
        if count == 0:
            continue
        first = added(begin, way)
        if last is not None:
            told.append(subtracted(first, last))
        if count > 1:
            told.append(step)
        last = added(first, multiplied((count - 1, 1), step))
    return smallest(told) if told else None


def gaps(program, sizes):
    """Of each axis the least way between a pulse of it and the next one of it, None if it has less than two."""
    rows = counted_legs(program, sizes)
    begins = ways(program)
    return tuple(least_gap(begins, [row[axis] for row in rows]) for axis in range(len(sizes)))


def is_pulse(value, pulse):
    """Whether a value is this pulse, of kinds, too."""
    if not is_tuple_of(value, 3) or not is_tuple_of(value[0], 2):
        return False
    return all(is_integer(part) for part in value[0] + value[1:]) and value == pulse


def pulses_fault(program, sizes, value):
    """The index of a value's first member that is not the pulse in its place, None of all pulses."""
    told = pulses(program, sizes)
    if type(value) is not tuple:
        return 0
    for index, (member, pulse) in enumerate(zip(value, told)):
        if not is_pulse(member, pulse):
            return index
    return None if len(value) == len(told) else min(len(value), len(told))
