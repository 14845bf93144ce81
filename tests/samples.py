"""What several tests share: programs, limits, and values that are neither.

Numbers are worked out here with Python's own Fraction, so that the tests do
not lean on the arithmetic that they test.
"""

import random
from fractions import Fraction

START = ((0, 1), (0, 1))
PROGRAM = (START, (
    (((4, 1), (0, 1)), (2, 1), (0, 1), False),
    (((4, 1), (3, 1)), (3, 1), (1, 2), False),
))
LIMITS = (((10, 1), (1, 1), (1, 1)), ((5, 1), (2, 1), (1, 2)))


class Whole(int):
    """An integer of a class below int."""


class Word(str):
    """A string of a class below str."""


class Row(tuple):
    """A tuple of a class below tuple."""


class Shelf(list):
    """A list of a class below list."""


def nested(depth, made):
    value = made()
    for _ in range(depth):
        value = made((value,))
    return value


ODD_VALUES = [
    None, True, False, 0, 1, -1, 7, 10 ** 89, -10 ** 89,
    "", "0", "1/2", "start x 0", "x" * 20000, "\n",
    (), (0,), (0, 1, 2), ((0, 1),), ((0, 1), (0, 1)), ((0, 1), ((0, 1),)),
    [], [0, 1], [(0, 1)], [[(0, 1)], []],
    nested(39, tuple), nested(39, list), tuple(range(5999)), list(range(5999)),
    Whole(3), Word("0"), Row(), Shelf(), 0.5, Fraction(1, 2), {}, {1: 2}, b"0", object(),
]

# Each of them looks like a fraction, and is none.
NEAR_FRACTIONS = [
    (1,), (1, 2, 3), [1, 2], (2, 4), (-2, 4), (0, 2), (0, -1), (1, 0), (0, 0), (1, -2), (-1, -2), (-1, -1),
    (True, 1), (False, 1), (1, True), (True, True), (3, True), ("1", 2), (1, "2"), "12", b"12", {1: 1, 2: 1},
    (None, 1), (1, None), ((1, 2), 1), (1, (2, 1)), ((1, 1), (2, 1)), (1.0, 2), (1, 2.0),
    (10 ** 89, 10 ** 89), (10 ** 40 + 10 ** 20, 10 ** 20), (Whole(1), 2), (1, Whole(2)), Row((1, 2)), Fraction(1, 2),
]

NOT_FRACTIONS = NEAR_FRACTIONS + [value for value in ODD_VALUES if value != (0, 1)]

# Where a fraction above 0, or one from 0 on, is asked for.
NOT_ABOVE_NOUGHT = NOT_FRACTIONS + [(0, 1), (-1, 2), (-10 ** 40, 3)]
NOT_FROM_NOUGHT = NOT_FRACTIONS + [(-1, 2), (-10 ** 40, 3), (-1, 10 ** 40)]


def pair(value):
    """The package's fraction of a number."""
    number = Fraction(value)
    return (number.numerator, number.denominator)


def number(told):
    """Python's Fraction of the package's."""
    return Fraction(told[0], told[1])


def pairs(values):
    return tuple(pair(value) for value in values)


def some_number(chance, low, high):
    """A fraction from low to high, of a bottom that is mostly small."""
    bottom = chance.choice((1, 1, 1, 2, 3, 4, 5, 7, 10, 12, 10 ** 6 + 3))
    return Fraction(chance.randint(low * bottom, high * bottom), bottom)


def some_distance(chance, axes, ahead):
    """A distance unlike 0; often along the one ahead, against it, or along one axis."""
    choice = chance.randrange(6)
    if ahead is not None and choice < 2:
        factor = chance.choice((Fraction(1, 2), Fraction(1), Fraction(7, 3)))
        return [part * factor * (1 if choice == 0 else -1) for part in ahead]
    while True:
        told = [some_number(chance, -9, 9) for _ in range(axes)]
        if choice == 2:
            kept = chance.randrange(axes)
            told = [part if axis == kept else Fraction(0) for axis, part in enumerate(told)]
        if any(told):
            return told


def some_program(chance, axes=None, steps=None):
    """A program; of one to three axes and of one to thirty steps if neither is told."""
    axes = axes or chance.randint(1, 3)
    steps = steps or chance.choice((1, 2, 3, 4, 5, 8, 30))
    at = [some_number(chance, -9, 9) for _ in range(axes)]
    start, told, ahead = pairs(at), [], None
    for _ in range(steps):
        ahead = some_distance(chance, axes, ahead)
        at = [begin + part for begin, part in zip(at, ahead)]
        feed = some_number(chance, 1, 20)
        least = chance.choice((Fraction(0), Fraction(0), feed, feed / 3))
        told.append((pairs(at), pair(feed), pair(least), chance.random() < 0.25))
    return (start, tuple(told))


def some_limits(chance, axes):
    return tuple((
        pair(some_number(chance, 1, 20)),
        pair(some_number(chance, 1, 9)),
        pair(chance.choice((Fraction(0), some_number(chance, 0, 5), some_number(chance, 0, 5)))),
    ) for _ in range(axes))


def some_programs(seed, many):
    """Many programs with limits, each seed the same ones."""
    chance = random.Random(seed)
    for _ in range(many):
        program = some_program(chance)
        yield program, some_limits(chance, len(program[0]))


def with_member(rows, index, value):
    """The tuple with another value at an index."""
    return rows[:index] + (value,) + rows[index + 1:]


def with_step(program, index, step):
    return (program[0], with_member(program[1], index, step))


def with_part(program, index, member, value):
    """The program with another value as a member of a step."""
    return with_step(program, index, with_member(program[1][index], member, value))


def line_program(many):
    """A program of so many steps along one axis."""
    return (((0, 1),), tuple((((k + 1, 1),), (2, 1), (0, 1), False) for k in range(many)))


def course_of(*rows):
    """The package's course of pairs of numbers."""
    return tuple(pairs(row) for row in rows)


# Of the program above; its last way is 7.
COURSE = course_of((0, 0), (2, 1), (4, Fraction(1, 4)), (Fraction(11, 2), Fraction(5, 2)), (7, 0))


def some_course(chance, many, whole=None):
    """A course of so many members, with squares 0 here and there, but never two of them behind one another."""
    at, rows = Fraction(0), []
    for _ in range(many):
        square = some_number(chance, 0, 20)
        if chance.random() < 0.1 and not (rows and rows[-1][1] == 0):
            square = Fraction(0)
        elif square == 0:
            square = Fraction(1, 3)
        rows.append((at, square))
        at += some_number(chance, 1, 5)
    if whole is not None and many > 1:
        factor = Fraction(whole) / rows[-1][0]
        rows = [(way * factor, square) for way, square in rows]
    return course_of(*rows)


def wrong_courses(course):
    """Values that are nearly this course and are none, with the index of their fault; it has three members or more."""
    last = len(course) - 1
    yield list(course), 0
    yield Row(course), 0
    yield (course,), 0
    yield course + (course[-1],), last + 1
    yield course + (course[0],), last + 1
    yield course + ((),), last + 1
    yield course[1:], 0
    yield course[::-1], 0
    for index, (way, square) in enumerate(course):
        for member in (
            None, (), (way,), (way, square, square), [way, square], Row((way, square)), way, "", 0, True,
            (way, (-1, 10 ** 90)), (way, (-1, 1)), (way, 1), (way, (2, 4)), (way, (True, 1)), (way, None),
            (way, list(square)), (None, square), (0, square), ([0, 1], square), ((2, 4), square), ((False, 1), square),
            ((-1, 1), square), ((-1, 10 ** 90), square),
        ):
            yield with_member(course, index, member), index
        if index == 0:
            yield with_member(course, index, ((1, 10 ** 90), square)), index
        else:
            yield with_member(course, index, (course[index - 1][0], square)), index
            yield course[:index] + course[index - 1:], index
            yield with_member(course, index, ((number(course[index - 1][0]) - Fraction(1, 10 ** 90)), square)), index
            nearly = pair(number(course[index - 1][0]) - Fraction(1, 10 ** 90))
            yield with_member(course, index, (nearly, square)), index
    for index in range(1, last):
        turned = course[:index] + (course[index + 1], course[index]) + course[index + 2:]
        yield turned, index + 1
        yield with_member(with_member(course, index, None), last, None), index
