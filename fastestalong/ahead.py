"""Looking ahead: courses of a tool that knows the next moves alone."""

from fastestalong.courses import greatest, greatest_within, joint_caps, joint_squares
from fastestalong.exact import NOUGHT, added, is_less, smallest
from fastestalong.fractions import check_count
from fastestalong.lines import sides
from fastestalong.moves import swings
from fastestalong.programs import MOST_STEPS


def stop_cap(behind, known):
    """The stop cap of a joint, told by how much the square can change along each move behind it; None without one."""
    if len(behind) < known:
        return None
    total = NOUGHT
    for change in behind[:known - 1]:
        total = added(total, change)
    return total


def ahead(program, limits, known):
    """The greatest course of a tool that at each way knows so many moves."""
    bounds = joint_caps(program, limits)
    check_count(known, 1, MOST_STEPS)
    changes = swings(program, limits)
    told = []
    for index, bound in enumerate(bounds):
        cap = stop_cap(changes[index:], known)
        told.append(bound if cap is None else smallest([bound, cap]))
    return greatest_within(program, limits, told)


def slower(program, limits, known):
    """The stretches (low, high) along which ahead is below greatest."""
    told = []
    begin = NOUGHT
    is_apart = False
    for way, side in sides(ahead(program, limits, known), greatest(program, limits)):
        if side != 0:
            is_apart = True
        else:
            if is_apart:
                told.append((begin, way))
            begin = way
            is_apart = False
    return tuple(told)


def known_for(square, behind):
    """How many moves are to be known at a joint for a square, told the changes along each move behind it."""
    total = NOUGHT
    for index, change in enumerate(behind):
        if not is_less(total, square):
            return index + 1
        total = added(total, change)
    return len(behind) + 1


def enough(program, limits):
    """The least number of known moves with which ahead is the greatest course."""
    changes = swings(program, limits)
    squares = joint_squares(joint_caps(program, limits), changes)
    return max([1] + [known_for(squares[index], changes[index:]) for index in range(1, len(changes))])
