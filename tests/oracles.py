"""What the points [9] to [12] say, worked out in another way than the package does, with Python's own Fraction."""

from decimal import Decimal, localcontext
from fractions import Fraction

from samples import number, pair


class Road:
    """The moves of a program under limits: ways, caps, slopes (twice the pull), least squares, joint caps."""

    def __init__(self, program, limits):
        points = [[number(part) for part in program[0]]]
        for step in program[1]:
            points.append([number(part) for part in step[0]])
        axes = [[number(part) for part in axis] for axis in limits]
        self.ways, directions, self.caps, self.slopes, self.leasts = [Fraction(0)], [], [], [], []
        for step, begin, end in zip(program[1], points, points[1:]):
            distance = [to - at for at, to in zip(begin, end)]
            length = max(abs(part) for part in distance)
            self.ways.append(self.ways[-1] + length)
            direction = [part / length for part in distance]
            directions.append(direction)
            moving = [(abs(part), axis) for part, axis in zip(direction, axes) if part]
            self.caps.append(min([number(step[1])] + [axis[0] / part for part, axis in moving]) ** 2)
            self.slopes.append(2 * min(axis[1] / part for part, axis in moving))
            self.leasts.append(number(step[2]) ** 2)
        self.stops = [step[3] for step in program[1]]
        self.turns = [self.turn(axes, directions, joint) for joint in range(len(directions) + 1)]
        self.levels = [Fraction(0)]
        for begin, end, slope in zip(self.ways, self.ways[1:], self.slopes):
            self.levels.append(self.levels[-1] + slope * (end - begin))
        self.joint_caps = [Fraction(0)]
        for joint in range(1, len(directions)):
            told = [self.caps[joint - 1], self.caps[joint]]
            self.joint_caps.append(min(told if self.turns[joint] is None else told + [self.turns[joint]]))
        self.joint_caps.append(Fraction(0))

    def turn(self, axes, directions, joint):
        if joint in (0, len(directions)) or self.stops[joint - 1]:
            return Fraction(0)
        sides = [(abs(e - d), axis) for e, d, axis in zip(directions[joint - 1], directions[joint], axes) if e != d]
        return min(axis[2] / part for part, axis in sides) ** 2 if sides else None

    def level(self, way):
        """By how much the square can change from the start to a way."""
        move = max(index for index in range(len(self.caps)) if self.ways[index] <= way)
        return self.levels[move] + self.slopes[move] * (way - self.ways[move])

    def swing(self, one, other):
        """By how much the square can change between two ways."""
        return abs(self.level(one) - self.level(other))

    def greatest_at(self, way, bounds=None):
        """Fact G: the least of all joint caps and caps of moves, led to the way."""
        level = self.level(way)
        told = [cap + abs(at - level) for at, cap in zip(self.levels, bounds or self.joint_caps)]
        for low, high, cap in zip(self.levels, self.levels[1:], self.caps):
            told.append(cap + max(low - level, level - high, 0))
        return min(told)

    def stop_bounds(self, known):
        """The joint caps with the stop caps of so many known moves beside them."""
        told, moves = list(self.joint_caps), len(self.caps)
        for joint in range(1, moves):
            if moves - joint > known - 1:
                told[joint] = min(told[joint], self.swing(self.ways[joint], self.ways[joint + known - 1]))
        return told

    def meetings(self, bounds):
        """All ways at which two caps, led along the path, may be the same: the course can bend there alone."""
        told = set(self.ways)
        for begin, end, cap, slope in zip(self.ways, self.ways[1:], self.caps, self.slopes):
            low, high = self.greatest_at(begin, bounds), self.greatest_at(end, bounds)
            told |= {begin + (cap - low) / slope, end - (cap - high) / slope}
            told.add((begin + end) / 2 + (high - low) / (2 * slope))
        return sorted(way for way in told if 0 <= way <= self.ways[-1])

    def bends(self, bounds=None):
        """The greatest course as pairs of numbers."""
        bounds = bounds or self.joint_caps
        told = [(way, self.greatest_at(way, bounds)) for way in self.meetings(bounds)]
        return [row for index, row in enumerate(told) if index in (0, len(told) - 1) or bent(told, index)]


def bent(rows, index):
    ahead, at, behind = rows[index - 1:index + 2]
    return (at[1] - ahead[1]) / (at[0] - ahead[0]) != (behind[1] - at[1]) / (behind[0] - at[0])


def numbers(course):
    """A course as pairs of Python's Fractions."""
    return [(number(way), number(square)) for way, square in course]


def square_on(rows, way):
    """The square at a way, of pairs of numbers."""
    for (low, square), (high, other) in zip(rows, rows[1:]):
        if low <= way <= high:
            return square + (other - square) * (way - low) / (high - low)
    assert len(rows) == 1 and way == rows[0][0]
    return rows[0][1]


def judgement(program, limits, course):
    """What judged tells, as its words say it, None without a fault."""
    road, rows = Road(program, limits), numbers(course)
    for way, cap in zip(road.ways, road.joint_caps):
        if square_on(rows, way) > cap:
            return ("turn", way)
    marks = sorted({way for way, _ in rows} | set(road.ways))
    for low, high in zip(marks, marks[1:]):
        move = max(index for index in range(len(road.caps)) if road.ways[index] <= low)
        ends = [square_on(rows, low), square_on(rows, high)]
        faults = [
            ("cap", max(ends) > road.caps[move]), ("least", min(ends) < road.leasts[move]),
            ("pull", abs(ends[0] - ends[1]) > road.slopes[move] * (high - low)), ("still", ends == [0, 0]),
        ]
        for word, holds in faults:
            if holds:
                return (word, low)
    return None


def part_of(course, low, high):
    """The rows of a course from one way to another one, as numbers."""
    rows = numbers(course)
    ends = [(way, square_on(rows, way)) for way in (low, high)]
    inner = [row for row in rows if low < row[0] < high]
    return [ends[0]] + inner + [ends[1]]


def decimal(value):
    return Decimal(value.numerator) / Decimal(value.denominator)


def nearly_time(course, low, high, places=200):
    """The time from one way to another one, to some 200 places, as a Fraction."""
    with localcontext() as context:
        context.prec = places
        total = Decimal(0)
        for (way, square), (end, other) in zip(part_of(course, low, high), part_of(course, low, high)[1:]):
            if end > way:
                total += 2 * decimal(end - way) / (decimal(square).sqrt() + decimal(other).sqrt())
        return Fraction(total)


def quickened(program, factor):
    """The program with each feed a factor times as great, and without leasts."""
    steps = tuple((step[0], pair(number(step[1]) * factor), (0, 1), step[3]) for step in program[1])
    return (program[0], steps)


class Walk:
    """A run as point [14] tells it: the way, the square, whether it is held, and the factor, of each order."""

    def __init__(self, program, limits):
        self.program, self.limits, self.roads = program, limits, {}
        self.orders = [(Fraction(0), Fraction(0), False, Fraction(1))]

    def road(self, factor):
        if factor not in self.roads:
            self.roads[factor] = Road(quickened(self.program, factor), self.limits)
        return self.roads[factor]

    def rest_at(self, order, way):
        """The square at a way if nothing is told behind an order."""
        at, square, held, factor = order
        road = self.road(factor)
        swing = road.swing(at, way)
        if held:
            return max(square - swing, Fraction(0))
        return max(min(road.greatest_at(way), square + swing), square - swing)

    def square(self, way):
        return self.rest_at([order for order in self.orders if order[0] <= way][-1], way)

    def stand(self):
        """The way at which it comes to stand by the last order."""
        at, square, held, _ = self.orders[-1]
        road = self.road(Fraction(1))
        if not held:
            return road.ways[-1]
        level = road.level(at) + square
        move = max(index for index in range(len(road.caps)) if road.levels[index] <= level)
        return road.ways[move] + (level - road.levels[move]) / road.slopes[move]

    def tell(self, way, held=None, factor=None):
        """Another order at a way."""
        _, _, was_held, last = self.orders[-1]
        held = was_held if held is None else held
        self.orders.append((way, self.square(way), held, last if factor is None else factor))
