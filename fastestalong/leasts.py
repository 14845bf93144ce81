"""Leasts: whether some course keeps a program, and what bars it."""

from fastestalong.courses import joint_caps
from fastestalong.exact import NOUGHT, absolute, added, is_less, squared, subtracted
from fastestalong.moves import caps, swings, ways


def led_back(bounds, changes):
    """Each of these bounds, the first one nearest, with all changes between it and the first one added."""
    told = bounds[:1]
    total = NOUGHT
    for bound, change in zip(bounds[1:], changes):
        total = added(total, change)
        told.append(added(bound, total))
    return told


def led_to_move(bounds, changes, move):
    """The bound of each point of the path led to the nearer end of a move."""
    ahead = led_back(bounds[move::-1], changes[:move][::-1])
    return ahead[::-1] + led_back(bounds[move + 1:], changes[move + 1:])


def sums_of_move(joints, led, move):
    """The (way, other way, square) of all bounds led to a move."""
    told = []
    for index, square in enumerate(led):
        near = move if index <= move else move + 1
        told.append((joints[index], joints[near], square))
    return told


def sums(program, limits):
    """The (way, other way, sum) of each move whose least is above 0, alone and with each point of the path."""
    bounds = joint_caps(program, limits)
    changes = swings(program, limits)
    joints = ways(program)
    told = []
    for move, cap in enumerate(caps(program, limits)):
        least = squared(program[1][move][2])
        if least != NOUGHT:
            rows = [(joints[move], joints[move], cap)]
            rows.extend(sums_of_move(joints, led_to_move(bounds, changes, move), move))
            told.extend([(way, other, subtracted(square, least)) for way, other, square in rows])
    return tuple(told)


def is_ahead(row, other):
    """Whether a row (distance, way, other way) comes ahead of another one."""
    for part, other_part in zip(row, other):
        if part != other_part:
            return is_less(part, other_part)
    return False


def bar(program, limits):
    """The two nearest ways between which a least can not be kept, None if all can."""
    first = None
    for way, other, total in sums(program, limits):
        if total[0] < 0:
            row = (absolute(subtracted(other, way)), way, other)
            if first is None or is_ahead(row, first):
                first = row
    return None if first is None else first[1:]


def can_keep(program, limits):
    """Whether some course keeps the program."""
    return bar(program, limits) is None
