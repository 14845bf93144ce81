"""Point [13], fact N: pulses of the axes, and their counters."""

import copy
import random
import unittest
from fractions import Fraction
from math import floor

from fastestalong.errors import InvalidPart, InvalidProgram, InvalidWay, TooMany
from fastestalong.moves import point_at, ways
from fastestalong.programs import grown, led, moved
from fastestalong.pulses import counts_at, gaps, pulses, pulses_fault
from samples import (
    NOT_ABOVE_NOUGHT, ODD_VALUES, PROGRAM, Row, Whole, number, pair, pairs, some_number, some_program, with_member,
)

TINY = Fraction(1, 10 ** 80)
HALF = Fraction(1, 2)


def trip(*points):
    """A program through points of numbers."""
    return (pairs(points[0]), tuple((pairs(point), (1, 1), (0, 1), False) for point in points[1:]))


def numbers_of(program):
    return [[number(part) for part in program[0]]] + [[number(part) for part in step[0]] for step in program[1]]


def way_numbers(points):
    told = [Fraction(0)]
    for begin, end in zip(points, points[1:]):
        told.append(told[-1] + max(abs(to - at) for at, to in zip(begin, end)))
    return told


def first_counter(place):
    """The counter to which a place, counted in sizes, is nearest, of two the lesser."""
    return min((floor(place), floor(place) + 1), key=lambda counter: (abs(place - counter), counter))


def axis_pulses(marks, places):
    """The (way, turn) of an axis' pulses one by one, told its places in sizes at some ways, and its first counter."""
    counter, told = first_counter(places[0]), []
    for low, high, begin, end in zip(marks, marks[1:], places, places[1:]):
        while abs(end - counter) > HALF:
            turn = 1 if end > counter else -1
            told.append((low + (high - low) * (counter + turn * HALF - begin) / (end - begin), turn))
            counter += turn
    return told


def walked(program, sizes):
    """All pulses as the point tells them, worked out one by one with numbers."""
    points = numbers_of(program)
    marks, told = way_numbers(points), []
    for axis, size in enumerate(sizes):
        places = [point[axis] / number(size) for point in points]
        told.extend((pair(way), axis, turn) for way, turn in axis_pulses(marks, places))
    return tuple(sorted(told, key=lambda row: (number(row[0]), row[1])))


def counters_at(program, sizes, way):
    """The counters behind all pulses with ways below a way."""
    told = [first_counter(number(part) / number(size)) for part, size in zip(program[0], sizes)]
    for at, axis, turn in walked(program, sizes):
        if number(at) < way:
            told[axis] += turn
    return tuple(told)


def fewest(marks, places):
    """The least number of pulses that keep an axis near everywhere: tried for all rows of counters."""
    rows = [(place, place) for place in places]
    for low, high in zip(places, places[1:]):
        levels = sorted({low, high} | {
            level + HALF for level in range(floor(min(low, high)) - 1, floor(max(low, high)) + 2)
            if min(low, high) < level + HALF < max(low, high)
        }, reverse=low > high)
        rows.extend(list(zip(levels, levels[1:])) or [(low, high)])
        rows.append((high, high))
    rows = rows[:1] + rows[len(places):]
    costs = {first_counter(places[0]): 0}
    for begin, end in rows:
        near = [counter for counter in range(floor(begin) - 1, floor(begin) + 3)
                if abs(begin - counter) <= HALF and abs(end - counter) <= HALF]
        costs = {counter: min(cost + abs(counter - ahead) for ahead, cost in costs.items()) for counter in near}
    return min(costs.values())


def some_sizes(chance, axes):
    return pairs(chance.choice((1, 2, 3, Fraction(1, 2), Fraction(7, 3), Fraction(4, 5), 20, 100)) for _ in range(axes))


def half_program(chance, axes, steps):
    """A program whose points are often just half a size of 1 from a counter."""
    at = [Fraction(chance.randint(-6, 6), 2) for _ in range(axes)]
    points = [at]
    while len(points) <= steps:
        at = [part + chance.choice((0, 0, 1, -1, 2, -3)) * HALF for part in at]
        if at != points[-1]:
            points.append(at)
    return trip(*points)


def programs_with_sizes(seed, many):
    chance = random.Random(seed)
    for index in range(many):
        axes = chance.randint(1, 3)
        if index % 2:
            yield some_program(chance, axes, chance.randint(1, 12)), some_sizes(chance, axes)
        else:
            yield half_program(chance, axes, chance.randint(1, 12)), pairs(chance.choice((1, 1, 2)) for _ in range(axes))


class TestPulses(unittest.TestCase):
    def test_known_ones(self):
        rest = trip((0,), (Fraction(1, 2),))
        self.assertEqual(pulses(rest, ((1, 1),)), ())
        on = trip((0, 0), (HALF, 0), (HALF, 3), (1, 3))
        self.assertEqual(pulses(on, ((1, 1), (100, 1))), (((7, 2), 0, 1),))
        back = trip((0, 0), (HALF, 0), (HALF, 3), (0, 3))
        self.assertEqual(pulses(back, ((1, 1), (100, 1))), ())
        both = trip((0, 0), (2, -2))
        self.assertEqual(pulses(both, ((1, 1), (1, 1))), (
            ((1, 2), 0, 1), ((1, 2), 1, -1), ((3, 2), 0, 1), ((3, 2), 1, -1),
        ))
        turned = trip((0,), (1,), (0,))
        self.assertEqual(pulses(turned, ((1, 1),)), (((1, 2), 0, 1), ((3, 2), 0, -1)))

    def test_first_counters(self):
        for place, counter in (
            (0, 0), (HALF, 0), (HALF + TINY, 1), (-HALF, -1), (-HALF + TINY, 0), (-HALF - TINY, -1),
            (Fraction(3, 2), 1), (Fraction(-3, 2), -2), (Fraction(-5, 4), -1),
        ):
            for size in (Fraction(1), Fraction(7, 3)):
                program = trip((place * size,), (place * size + 1,))
                self.assertEqual(counts_at(program, pairs([size]), (0, 1)), (counter,))

    def test_half_at_the_start(self):
        size = ((1, 1),)
        self.assertEqual(pulses(trip((HALF,), (1,)), size), (((0, 1), 0, 1),))
        self.assertEqual(pulses(trip((HALF,), (0,)), size), ())
        self.assertEqual(pulses(trip((-HALF,), (0,)), size), (((0, 1), 0, 1),))
        self.assertEqual(pulses(trip((-HALF,), (-1,)), size), ())
        waits = trip((HALF, 0), (HALF, 5), (2, 5))
        self.assertEqual(pulses(waits, ((1, 1), (100, 1))), (((5, 1), 0, 1), ((6, 1), 0, 1)))

    def test_of_any_kind(self):
        for program, sizes in programs_with_sizes(1, 300):
            before = copy.deepcopy((program, sizes))
            told = walked(program, sizes)
            self.assertEqual(pulses(program, sizes), told)
            self.assertEqual(pulses(sizes=sizes, program=program), told)
            self.assertEqual((program, sizes), before)
            for way, axis, turn in pulses(program, sizes):
                self.assertIs(type(axis), int)
                self.assertIs(type(turn), int)
                self.assertIs(type(way), tuple)

    def test_each_is_due(self):
        for program, sizes in programs_with_sizes(2, 60):
            end = number(ways(program)[-1])
            for way, axis, turn in pulses(program, sizes):
                at = number(way)
                size = number(sizes[axis])
                counter = counts_at(program, sizes, way)[axis]
                self.assertLessEqual(abs(number(point_at(program, way)[axis]) - counter * size), size / 2)
                behind = pair(at + TINY)
                self.assertLess(at + TINY, end)
                self.assertGreater(turn * (number(point_at(program, behind)[axis]) - counter * size), size / 2)

    def test_no_fewer_would_do(self):
        for program, sizes in programs_with_sizes(3, 150):
            points = numbers_of(program)
            told = pulses(program, sizes)
            for axis, size in enumerate(sizes):
                places = [point[axis] / number(size) for point in points]
                many = len([row for row in told if row[1] == axis])
                self.assertEqual(many, fewest(way_numbers(points), places))

    def test_of_whole_sizes_moved(self):
        chance = random.Random(4)
        for program, sizes in programs_with_sizes(4, 60):
            by = [chance.choice((0, 1, -1, 5, 10 ** 29)) for _ in sizes]
            shift = pairs(number(size) * times for size, times in zip(sizes, by))
            self.assertEqual(pulses(moved(program, shift), sizes), pulses(program, sizes))
            self.assertEqual(gaps(moved(program, shift), sizes), gaps(program, sizes))
            way = pair(number(ways(program)[-1]) * some_number(chance, 0, 1))
            told = zip(counts_at(program, sizes, way), by)
            self.assertEqual(counts_at(moved(program, shift), sizes, way), tuple(count + times for count, times in told))

    def test_grown(self):
        for program, sizes in programs_with_sizes(5, 60):
            for factor in (Fraction(3), Fraction(2, 7)):
                many = tuple(pair(number(size) * factor) for size in sizes)
                told = tuple((pair(number(way) * factor), axis, turn) for way, axis, turn in pulses(program, sizes))
                self.assertEqual(pulses(grown(program, pair(factor)), many), told)

    def test_led(self):
        chance = random.Random(6)
        for program, sizes in programs_with_sizes(6, 60):
            order = list(range(len(sizes)))
            chance.shuffle(order)
            told = [(way, order.index(axis), turn) for way, axis, turn in pulses(program, sizes)]
            told = tuple(sorted(told, key=lambda row: (number(row[0]), row[1])))
            other = tuple(sizes[axis] for axis in order)
            self.assertEqual(pulses(led(program, tuple(order)), other), told)

    def test_of_a_move_parted_in_two(self):
        chance = random.Random(7)
        for program, sizes in programs_with_sizes(7, 80):
            index = chance.randrange(len(program[1]))
            begin = ([program[0]] + [step[0] for step in program[1]])[index]
            step = program[1][index]
            part = chance.choice((HALF, Fraction(1, 3), Fraction(9, 10)))
            middle = pairs(number(at) + (number(to) - number(at)) * part for at, to in zip(begin, step[0]))
            steps = program[1][:index] + ((middle,) + step[1:], step) + program[1][index + 1:]
            self.assertEqual(pulses((program[0], steps), sizes), pulses(program, sizes))

    def test_of_first_moves_alone(self):
        for program, sizes in programs_with_sizes(8, 60):
            for many in range(1, len(program[1])):
                first = (program[0], program[1][:many])
                end = number(ways(first)[-1])
                told = tuple(row for row in pulses(program, sizes) if number(row[0]) < end)
                self.assertEqual(pulses(first, sizes), told)


class TestCounters(unittest.TestCase):
    def test_at_and_around_pulses(self):
        chance = random.Random(1)
        for program, sizes in programs_with_sizes(11, 40):
            marks = {number(way) for way in ways(program)} | {number(row[0]) for row in pulses(program, sizes)}
            end = max(marks)
            marks = chance.sample(sorted(marks), min(len(marks), 12)) + [Fraction(0), end]
            for mark in marks:
                for way in (mark, mark - TINY, mark + TINY):
                    if 0 <= way <= end:
                        told = counts_at(program, sizes, pair(way))
                        self.assertEqual(told, counters_at(program, sizes, way))
                        self.assertEqual(told, counts_at(way=pair(way), sizes=sizes, program=program))
                        self.assertEqual([type(counter) for counter in told], [int] * len(sizes))
                        point = point_at(program, pair(way))
                        for part, size, counter in zip(point, sizes, told):
                            self.assertLessEqual(abs(number(part) - counter * number(size)), number(size) / 2)

    def test_from_one_pulse_to_the_next(self):
        for program, sizes in programs_with_sizes(12, 40):
            rows = pulses(program, sizes)
            steps = sorted({number(row[0]) for row in rows})
            for way, behind in zip(steps, steps[1:]):
                told = list(counts_at(program, sizes, pair(way)))
                for at, axis, turn in rows:
                    if number(at) == way:
                        told[axis] += turn
                self.assertEqual(counts_at(program, sizes, pair(behind)), tuple(told))

    def test_of_thirty_digits(self):
        many = 10 ** 30
        program = trip((0, 0), (many, -many), (many + HALF, 7))
        sizes = ((1, 1), (1, 1))
        self.assertEqual(counts_at(program, sizes, (many, 1)), (many, -many))
        self.assertEqual(counts_at(program, sizes, pair(many - HALF)), (many - 1, -many + 1))
        self.assertEqual(counts_at(program, sizes, pair(many - HALF + TINY)), (many, -many))
        self.assertEqual(counts_at(program, sizes, pair(many + many + 7)), (many, 7))
        self.assertEqual(counts_at(program, ((1, 10 ** 30),) * 2, (1, 1)), (many, -many))


class TestGaps(unittest.TestCase):
    def test_known_ones(self):
        self.assertEqual(gaps(trip((0, 0), (5, 0)), ((2, 1), (2, 1))), ((2, 1), None))
        self.assertEqual(gaps(trip((0,), (1,)), ((1, 1),)), (None,))
        self.assertEqual(gaps(trip((0,), (2,)), ((1, 1),)), ((1, 1),))
        self.assertEqual(gaps(trip((0,), (Fraction(3, 4),), (0,)), ((1, 1),)), ((1, 2),))
        self.assertEqual(gaps(trip((0, 0), (1, 0), (1, 9), (2, 9)), ((1, 1), (50, 1))), ((10, 1), None))
        self.assertEqual(gaps(trip((0, 0), (3, 4)), ((1, 1), (1, 1))), ((4, 3), (1, 1)))

    def test_of_any_kind(self):
        for program, sizes in programs_with_sizes(21, 150):
            told = []
            for axis in range(len(sizes)):
                steps = [number(way) for way, other, _ in walked(program, sizes) if other == axis]
                apart = [behind - ahead for ahead, behind in zip(steps, steps[1:])]
                told.append(pair(min(apart)) if apart else None)
            self.assertEqual(gaps(program, sizes), tuple(told))
            self.assertEqual(gaps(sizes=sizes, program=program), tuple(told))


class TestFault(unittest.TestCase):
    def check(self, program, sizes, value, index):
        self.assertEqual(pulses_fault(program, sizes, value), index)
        self.assertEqual(pulses_fault(value=value, sizes=sizes, program=program), index)

    def test_of_the_pulses_and_nearly_them(self):
        for program, sizes in programs_with_sizes(31, 30):
            told = pulses(program, sizes)
            self.check(program, sizes, told, None)
            self.check(program, sizes, list(told), 0)
            self.check(program, sizes, Row(told), 0)
            self.check(program, sizes, told + (((0, 1), 0, 1),), len(told))
            self.check(program, sizes, told + (None, None), len(told))
            for index, (way, axis, turn) in list(enumerate(told))[:6]:
                self.check(program, sizes, told[:index], index)
                for member in (
                    None, (), (way, axis), (way, axis, turn, turn), [way, axis, turn], Row((way, axis, turn)), way, 0,
                    (pair(number(way) + TINY), axis, turn), (list(way), axis, turn), (Row(way), axis, turn),
                    ((Whole(way[0]), way[1]), axis, turn), ((way[0], Whole(way[1])), axis, turn), (way[0], axis, turn),
                    ((2 * way[0], 2 * way[1]), axis, turn), (way + way[1:], axis, turn), ((), axis, turn),
                    (way, axis + 1, turn), (way, bool(axis), turn), (way, Whole(axis), turn), (way, None, turn),
                    (way, axis, -turn), (way, axis, True), (way, axis, Whole(turn)), (way, axis, "1"), (way, axis, 0),
                ):
                    self.check(program, sizes, with_member(told, index, member), index)
                rest = told[:index] + told[index + 1:]
                self.check(program, sizes, rest, index)
                self.check(program, sizes, told[:index + 1] + told[index:], index + 1)
                if index + 1 < len(told):
                    turned = told[:index] + (told[index + 1], told[index]) + told[index + 2:]
                    self.check(program, sizes, turned, index)

    def test_true_is_no_1(self):
        program, sizes = trip((0, 0), (0, 1), (0, 0)), ((1, 1), (1, 1))
        self.assertEqual(pulses(program, sizes), (((1, 2), 1, 1), ((3, 2), 1, -1)))
        self.check(program, sizes, (((1, 2), True, 1), ((3, 2), 1, -1)), 0)
        self.check(program, sizes, (((1, 2), 1, True), ((3, 2), 1, -1)), 0)
        self.check(program, sizes, (((True, 2), 1, 1), ((3, 2), 1, -1)), 0)
        first = trip((0,), (1,))
        self.check(first, ((1, 1),), (((1, 2), False, 1),), 0)

    def test_of_none(self):
        program, sizes = trip((0,), (HALF,)), ((1, 1),)
        self.check(program, sizes, (), None)
        self.check(program, sizes, [], 0)
        self.check(program, sizes, (((1, 2), 0, 1),), 0)

    def test_of_other_sizes(self):
        for program, sizes in programs_with_sizes(32, 40):
            told = pulses(program, sizes)
            other = pulses(program, tuple(pair(number(size) / 2) for size in sizes))
            same = [one == two for one, two in zip(told, other)] + [False]
            index = None if told == other else same.index(False)
            self.check(program, sizes, other, index)

    def test_of_any_value(self):
        program, sizes = trip((0,), (5,)), ((1, 1),)
        for value in ODD_VALUES:
            self.check(program, sizes, value, 0)


class TestTooMany(unittest.TestCase):
    def test_just_as_many_as_are_let(self):
        program = trip((0, 0), (3000, 2000))
        sizes = ((1, 1), (1, 1))
        told = pulses(program, sizes)
        self.assertEqual(len(told), 5000)
        self.assertIsNone(pulses_fault(program, sizes, told))
        self.assertEqual(gaps(program, sizes), ((1, 1), (3, 2)))

    def test_more(self):
        for program, sizes, count in (
            (trip((0, 0), (3000, 2001)), ((1, 1), (1, 1)), 5001),
            (trip((0,), (5001,)), ((1, 1),), 5001),
            (trip((0,), (2501,), (0,)), ((1, 1),), 5002),
            (trip((0,), (10 ** 30,)), ((1, 1),), 10 ** 30),
            (trip((0, 0, 0), (10 ** 30, 5, 0)), ((1, 1), (1, 10 ** 6), (1, 1)), 10 ** 30 + 5 * 10 ** 6),
        ):
            for call in (
                lambda: pulses(program, sizes), lambda: gaps(program, sizes), lambda: pulses_fault(program, sizes, ()),
                lambda: pulses_fault(program, sizes, None), lambda: pulses_fault(program, sizes, [1]),
            ):
                with self.assertRaises(TooMany) as caught:
                    call()
                self.assertEqual(caught.exception.count, count)
            end = ways(program)[-1]
            point = numbers_of(program)[-1]
            told = tuple(int(part / number(size)) for part, size in zip(point, sizes))
            self.assertEqual(counts_at(program, sizes, end), told)


class TestErrors(unittest.TestCase):
    def calls(self, program, sizes):
        yield lambda: pulses(program, sizes)
        yield lambda: gaps(program, sizes)
        yield lambda: pulses_fault(program, sizes, ())
        yield lambda: counts_at(program, sizes, (0, 1))
        yield lambda: counts_at(program, sizes, None)

    def test_sizes(self):
        axis = trip((0,), (10 ** 9,))
        wrong = [((value,), axis) for value in NOT_ABOVE_NOUGHT]
        wrong += [(value, PROGRAM) for value in ODD_VALUES + [
            ((1, 1),), ((1, 1),) * 3, [(1, 1), (1, 1)], ((1, 1), (2, 4)), ((1, 1), (0, 1)), ((-1, 2), (1, 1)),
            Row(((1, 1), (1, 1))), (1, 1), ((1, 1), True), ((1, 1), 1),
        ] if value != ((0, 1), (0, 1))]
        for sizes, program in wrong:
            for call in self.calls(program, sizes):
                with self.assertRaises(InvalidPart):
                    call()

    def test_program_comes_first(self):
        for sizes in (((1, 1), (1, 1)), None, ()):
            for call in self.calls((PROGRAM[0], ()), sizes):
                with self.assertRaises(InvalidProgram) as caught:
                    call()
                self.assertEqual(caught.exception.place, (1,))

    def test_ways(self):
        for way in [value for value in ODD_VALUES if value != (0, 1)] + [(-1, 1), (8, 1), (71, 10), (2, 4)]:
            with self.assertRaises(InvalidWay):
                counts_at(PROGRAM, ((1, 1), (1, 1)), way)
        self.assertEqual(counts_at(PROGRAM, ((1, 1), (1, 1)), (7, 1)), (4, 3))


if __name__ == "__main__":
    unittest.main()
