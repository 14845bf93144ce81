"""Programs that are alike: one path, one least along it, and one greatest course under all limits."""

from fastestalong.exact import NOUGHT, divided, is_less, largest, smallest, squared, subtracted, twice
from fastestalong.moves import directions, ways
from fastestalong.programs import check_program


def can_join(step, direction, behind, behind_direction):
    """Whether two neighbouring moves, told by their steps and directions, can be put together."""
    return direction == behind_direction and step[1:] == behind[1:3] + (False,)


def plain(program):
    """The program with all moves put together that can be, and no stop at its last step."""
    along = directions(program)
    told = []
    start, steps = program
    for index, step in enumerate(steps):
        if index > 0 and can_join(steps[index - 1], along[index - 1], step, along[index]):
            told.pop()
        told.append(step)
    told[-1] = told[-1][:3] + (False,)
    return (start, tuple(told))


def in_sequence(joints, others):
    """The ways that are in one or both of two ascending tuples, ascending by size."""
    told = []
    index = 0
    for way in joints:
        while index < len(others) and is_less(others[index], way):
            told.append(others[index])
            index += 1
        if index < len(others) and others[index] == way:
            index += 1
        told.append(way)
    return told + list(others[index:])


def values_along(joints, values, begins):
    """Of each of these ways, ascending from 0 on, the value of the move that begins at it or goes on there, else None.

    There is a value for each move; behind the whole there is none.
    """
    told = []
    move = 0
    for way in begins:
        while move < len(values) and not is_less(way, joints[move + 1]):
            move += 1
        told.append(values[move] if move < len(values) else None)
    return told


def first_unlike(program, other_program, values, other_values):
    """The least way from which on the values of the moves of two programs are unlike, None without one."""
    joints, others = ways(program), ways(other_program)
    begins = in_sequence(joints, others)
    told = values_along(joints, values, begins)
    other_told = values_along(others, other_values, begins)
    for way, one, other in zip(begins, told, other_told):
        if one != other:
            return way
    return None


def parting(program, other_program):
    """The greatest way up to which the points of two paths are the same, None of one path."""
    if program[0] != other_program[0]:
        return NOUGHT
    return first_unlike(program, other_program, directions(program), directions(other_program))


def leasts_of(program):
    """The least of each move."""
    return [step[2] for step in program[1]]


def telling_limits(program, other_program):
    """Limits under which each feed and each stop of two programs of one path shows in the greatest course."""
    feed = largest([step[1] for step in program[1] + other_program[1]])
    joints = in_sequence(ways(program), ways(other_program))
    nearest = smallest([subtracted(way, ahead) for ahead, way in zip(joints, joints[1:])])
    axis = (feed, divided(squared(feed), nearest), twice(feed))
    return tuple(axis for _ in program[0])


def alike(program, other_program):
    """Whether two programs have one path, one least and one greatest course: ("yes",), or what tells them apart."""
    check_program(program)
    check_program(other_program)
    way = parting(program, other_program)
    if way is not None:
        return ("no", "path", way)
    way = first_unlike(program, other_program, leasts_of(program), leasts_of(other_program))
    if way is not None:
        return ("no", "least", way)
    if plain(program) != plain(other_program):
        return ("no", "course", telling_limits(program, other_program))
    return ("yes",)
