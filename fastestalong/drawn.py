"""Pictures in signs: of courses, of what binds them, of their times, and of paths."""

from fastestalong.courses import check_course
from fastestalong.errors import InvalidPart
from fastestalong.exact import (
    NOUGHT, added, divided, is_less, largest, multiplied, reduced, side, smallest, subtracted,
)
from fastestalong.fractions import check_count
from fastestalong.lines import between, refined
from fastestalong.moves import caps, ways
from fastestalong.programs import path
from fastestalong.roots import first_families, floor_at, place, summed
from fastestalong.times import time_terms

MOST_WIDE = 120
MOST_TALL = 60
ONE = (1, 1)


def check_wide(wide):
    """Raises InvalidCount of what is no number of columns."""
    check_count(wide, 1, MOST_WIDE)


def check_tall(tall):
    """Raises InvalidCount of what is no number of rows."""
    check_count(tall, 1, MOST_TALL)


def middles(whole, wide):
    """The middles of so many columns from 0 to the whole."""
    return [multiplied(whole, reduced(2 * column + 1, 2 * wide)) for column in range(wide)]


def level_sign(level, row):
    """The sign of a level in a row, counted from below."""
    top, bottom = level
    if top >= (row + 1) * bottom:
        return "#"
    return "+" if top > row * bottom else "."


def profile(course, wide, tall):
    """The squares of a course as rows of signs, the topmost row first."""
    check_course(course)
    check_wide(wide)
    check_tall(tall)
    most = largest([square for _, square in course])
    if most == NOUGHT:
        return tuple("." * wide for _ in range(tall))
    marks = middles(course[-1][0], wide)
    squares = {way: square for way, square in refined(course, marks)}
    scale = divided((tall, 1), most)
    levels = [multiplied(squares[mark], scale) for mark in marks]
    rows = ["".join([level_sign(level, row) for level in levels]) for row in range(tall)]
    return tuple(rows[::-1])


def index_of(begins, way):
    """The index of the last one of these ways, ascending from 0 on, that is not above a way."""
    low = 0
    high = len(begins)
    while high - low > 1:
        middle = (low + high) // 2
        if is_less(way, begins[middle]):
            high = middle
        else:
            low = middle
    return low


def ribbon_sign(cap, begin, end, way):
    """The sign of a way on the line from one member of a course to the next, told the cap of the move."""
    square = between(begin, end, way)[1]
    if is_less(cap, square):
        return "!"
    order = side(end[1], begin[1])
    if order != 0:
        return ">" if order > 0 else "<"
    return "#" if square == cap else "="


def ribbon(program, limits, course, wide):
    """A string of signs that tells of each column how the course goes there."""
    along = caps(program, limits)
    check_course(course)
    check_wide(wide)
    joints = ways(program)
    if course[-1][0] != joints[-1]:
        raise InvalidPart("the course is none of the program")
    begins = [way for way, _ in course]
    told = []
    for way in middles(joints[-1], wide):
        line = index_of(begins, way)
        told.append(ribbon_sign(along[index_of(joints, way)], course[line], course[line + 1], way))
    return "".join(told)


def whole_times(course, ends):
    """The greatest integers not above the times from 0 to each of these ways, which ascend up to the last one."""
    families = first_families()
    told = []
    line = refined(course, ends)
    for begin, end in zip(line, line[1:]):
        for factor, square in time_terms([begin, end]):
            place(families, factor, square)
        if end[0] == ends[len(told)]:
            told.append(floor_at(summed(families), 1))
    return told


def clock(course, wide):
    """A string of signs that tells of each column whether the time comes to another integer in it."""
    check_course(course)
    check_wide(wide)
    whole = course[-1][0]
    if whole == NOUGHT:
        return "-" * wide
    times = whole_times(course, [multiplied(whole, reduced(column + 1, wide)) for column in range(wide)])
    return "".join(["|" if behind > ahead else "-" for ahead, behind in zip([0] + times, times)])


def part_of(point, axis):
    """The number of an axis, 0 if there is none."""
    return point[axis] if axis < len(point) else NOUGHT


class Grid:
    """The box around points, along one axis, in cells of one width."""

    def __init__(self, numbers, cells):
        self.low = smallest(numbers)
        width = subtracted(largest(numbers), self.low)
        self.scale = divided((cells, 1), ONE if width == NOUGHT else width)
        self.last = cells - 1

    def cell(self, number):
        """The index of the cell of a number."""
        top, bottom = multiplied(subtracted(number, self.low), self.scale)
        return min(top // bottom, self.last)


def middle_point(begin, end):
    """The point in the middle between two points."""
    return tuple(multiplied((1, 2), added(one, other)) for one, other in zip(begin, end))


def trail(program, wide, tall):
    """The path along x and y as rows of signs, the topmost row first."""
    points = path(program)
    check_wide(wide)
    check_tall(tall)
    across = Grid([part_of(point, 0) for point in points], wide)
    up = Grid([part_of(point, 1) for point in points], tall)
    rows = [["."] * wide for _ in range(tall)]
    marked = [("+", middle_point(begin, end)) for begin, end in zip(points, points[1:])]
    marked.extend([("*", point) for point in points[1:]])
    marked.append(("o", points[0]))
    for sign, point in marked:
        rows[up.cell(part_of(point, 1))][across.cell(part_of(point, 0))] = sign
    return tuple("".join(row) for row in rows[::-1])
