"""Point [16], fact P: programs that are alike."""

import copy
import itertools
import random
import unittest
from fractions import Fraction

from fastestalong.alike import alike, plain
from fastestalong.courses import greatest
from fastestalong.errors import InvalidProgram
from fastestalong.leasts import bar
from fastestalong.programs import is_limits, is_program, moved
from oracles import Road
from samples import (
    PROGRAM, line_program, number, pair, pairs, some_limits, some_number, some_program, with_member, with_part,
    with_step,
)

YES = ("yes",)


def points_of(program):
    return [[number(part) for part in program[0]]] + [[number(part) for part in step[0]] for step in program[1]]


def directions_of(program):
    told, points = [], points_of(program)
    for begin, end in zip(points, points[1:]):
        distance = [to - at for at, to in zip(begin, end)]
        told.append([part / max(abs(part) for part in distance) for part in distance])
    return told


def plain_of(program):
    """The program with moves put together one by one, as long as two can be."""
    steps, along = list(program[1]), directions_of(program)
    index = 0
    while index + 1 < len(steps):
        one, two = steps[index], steps[index + 1]
        if along[index] == along[index + 1] and one[1:3] == two[1:3] and not one[3]:
            del steps[index], along[index]
        else:
            index += 1
    steps[-1] = steps[-1][:3] + (False,)
    return (program[0], tuple(steps))


def parted(chance, program, many):
    """The program with so many of its moves parted, one behind the other."""
    for _ in range(many):
        index = chance.randrange(len(program[1]))
        begin = ([program[0]] + [step[0] for step in program[1]])[index]
        step = program[1][index]
        part = Fraction(chance.randint(1, 6), 7)
        middle = pairs(number(at) + (number(to) - number(at)) * part for at, to in zip(begin, step[0]))
        program = (program[0], program[1][:index] + ((middle,) + step[1:3] + (False,), step) + program[1][index + 1:])
    return program


def stretch_values(program, values, low, high):
    """The value of the moves between two neighbouring ways of both programs, None behind the end."""
    road = Road(program, (((1, 1), (1, 1), (1, 1)),) * len(program[0]))
    for begin, end, value in zip(road.ways, road.ways[1:], values):
        if begin <= low and high <= end:
            return value
    return None


def told_alike(one, two):
    """What alike tells, as the point says it."""
    roads = [Road(program, (((1, 1), (1, 1), (1, 1)),) * len(program[0])) for program in (one, two)]
    marks = sorted(set(roads[0].ways) | set(roads[1].ways))
    if one[0] != two[0]:
        return ("no", "path", (0, 1))
    for word, values in (("path", directions_of), ("least", lambda program: [step[2] for step in program[1]])):
        for low, high in zip(marks, marks[1:]):
            told = [stretch_values(program, values(program), low, high) for program in (one, two)]
            if told[0] != told[1]:
                return ("no", word, pair(low))
    if plain_of(one) == plain_of(two):
        return YES
    feed = max(number(step[1]) for step in one[1] + two[1])
    apart = min(high - low for low, high in zip(marks, marks[1:]))
    return ("no", "course", (pairs((feed, feed ** 2 / apart, 2 * feed)),) * len(one[0]))


def changed(chance, program):
    """The program with one thing otherwise."""
    index = chance.randrange(len(program[1]))
    point, feed, least, stop = program[1][index]
    choice = chance.randrange(8)
    if choice == 0:
        return with_part(program, index, 1, pair(number(feed) * chance.choice((2, Fraction(5, 4)))))
    if choice == 1:
        return with_part(program, index, 2, chance.choice((feed, (0, 1), pair(number(feed) / 9))))
    if choice == 2:
        return with_part(program, index, 3, not stop)
    if choice == 3:
        goal = pairs(number(part) + some_number(chance, -2, 2) for part in point)
        return with_part(program, index, 0, goal)
    if choice == 4 and len(program[1]) > 1:
        return (program[0], program[1][:-1])
    if choice == 5:
        last = pairs(number(part) + 3 for part in program[1][-1][0])
        return (program[0], program[1] + ((last,) + program[1][-1][1:],))
    if choice == 6:
        return (pairs(number(part) + some_number(chance, 0, 1) for part in program[0]), program[1])
    return (program[0] + ((0, 1),), tuple((step[0] + ((0, 1),),) + step[1:] for step in program[1]))


def several(seed, many):
    chance = random.Random(seed)
    while many > 0:
        program = some_program(chance, None, chance.choice((1, 2, 3, 5)))
        other = parted(chance, program, chance.choice((0, 1, 3)))
        for _ in range(chance.choice((0, 1, 1, 2))):
            other = changed(chance, other)
        if is_program(other) and len(other[0]) <= 3:
            many -= 1
            yield parted(chance, program, chance.choice((0, 2))), other


class TestPlain(unittest.TestCase):
    def test_known_ones(self):
        self.assertEqual(plain(line_program(30)), (((0, 1),), ((((30, 1),), (2, 1), (0, 1), False),)))
        line = line_program(4)
        stopped = with_part(line, 1, 3, True)
        self.assertEqual(plain(stopped), (line[0], (stopped[1][1], line[1][3])))
        fed = with_part(line, 1, 1, (3, 1))
        self.assertEqual(plain(fed), (line[0], (fed[1][0], fed[1][1], fed[1][3])))
        slow = with_part(line, 1, 2, (1, 1))
        self.assertEqual(plain(slow), (line[0], (slow[1][0], slow[1][1], slow[1][3])))
        back = with_part(line, 3, 0, ((1, 1),))
        self.assertEqual(plain(back), (line[0], (back[1][2], back[1][3])))
        last = with_part(line, 3, 3, True)
        self.assertEqual(plain(last), plain(line))
        self.assertEqual(plain(with_part(PROGRAM, 1, 3, True)), PROGRAM)
        # A stop of the move behind is one of what they are put together to, a stop ahead holds them apart.
        third = with_part(line, 2, 3, True)
        self.assertEqual(plain(third), (line[0], (third[1][2], line[1][3])))

    def test_of_any_kind(self):
        chance = random.Random(1)
        for _ in range(150):
            program = parted(chance, some_program(chance, None, chance.choice((1, 2, 4, 9))), chance.choice((0, 1, 5)))
            before = copy.deepcopy(program)
            told = plain(program)
            self.assertEqual(told, plain_of(program))
            self.assertEqual(plain(program=program), told)
            self.assertEqual(program, before)
            self.assertEqual(plain(told), told)
            self.assertTrue(is_program(told))
            limits = some_limits(chance, len(program[0]))
            self.assertEqual(greatest(told, limits), greatest(program, limits))
            self.assertEqual(bar(told, limits) is None, bar(program, limits) is None)

    def test_bars(self):
        chance = random.Random(2)
        for _ in range(60):
            program = some_program(chance, None, chance.choice((2, 4, 9)))
            steps = tuple(step[:2] + (step[1], step[3]) for step in program[1])
            program = (program[0], steps)
            many = parted(chance, program, 4)
            limits = some_limits(chance, len(program[0]))
            self.assertEqual(bar(plain(many), limits), bar(plain(program), limits))


class TestAlike(unittest.TestCase):
    def check(self, one, two):
        before = copy.deepcopy((one, two))
        told = alike(one, two)
        self.assertEqual(told, told_alike(one, two))
        self.assertEqual(alike(two, one), told)
        self.assertEqual(alike(other_program=two, program=one), told)
        self.assertEqual(told == YES, plain(one) == plain(two))
        self.assertEqual((one, two), before)
        if told[1:2] == ("course",):
            self.assertTrue(is_limits(one, told[2]))
            self.assertTrue(is_limits(two, told[2]))
            self.assertNotEqual(greatest(one, told[2]), greatest(two, told[2]))
        return told

    def test_of_any_kind(self):
        words = {self.check(one, two)[1:2] for one, two in several(3, 400)}
        self.assertEqual(words, {(), ("path",), ("least",), ("course",)})

    def test_the_same(self):
        chance = random.Random(4)
        for _ in range(60):
            program = some_program(chance, None, chance.choice((1, 3, 8)))
            self.assertEqual(self.check(program, program), YES)
            self.assertEqual(self.check(program, parted(chance, program, 5)), YES)
            last = with_part(program, len(program[1]) - 1, 3, not program[1][-1][3])
            self.assertEqual(self.check(program, last), YES)
            limits = some_limits(chance, len(program[0]))
            self.assertEqual(greatest(last, limits), greatest(program, limits))

    def test_paths(self):
        line = line_program(3)
        self.assertEqual(self.check(line, line_program(5)), ("no", "path", (3, 1)))
        self.assertEqual(self.check(line, moved(line, ((1, 7),))), ("no", "path", (0, 1)))
        turned = with_part(line, 2, 0, ((1, 1),))
        self.assertEqual(self.check(line, turned), ("no", "path", (2, 1)))
        # Unlike from the start on, though both come to one point again.
        one = (pairs((0, 0)), tuple((pairs(point), (1, 1), (0, 1), False) for point in ((1, 0), (1, 1))))
        two = (pairs((0, 0)), tuple((pairs(point), (1, 1), (0, 1), False) for point in ((0, 1), (1, 1))))
        self.assertEqual(self.check(one, two), ("no", "path", (0, 1)))
        longer = with_part(line, 2, 0, ((7, 2),))
        self.assertEqual(self.check(line, longer), ("no", "path", (3, 1)))
        self.assertEqual(self.check(line, with_step(line, 1, (((5, 2),),) + line[1][1][1:])), YES)

    def test_numbers_of_axes(self):
        told = (PROGRAM[0] + ((0, 1),), tuple((step[0] + ((0, 1),),) + step[1:] for step in PROGRAM[1]))
        self.assertEqual(self.check(PROGRAM, told), ("no", "path", (0, 1)))

    def test_path_ahead_of_least_ahead_of_course(self):
        line = line_program(4)
        far = with_part(line, 3, 0, ((9, 1),))
        slow, fed = with_part(line, 2, 2, (1, 1)), with_part(line, 0, 1, (3, 1))
        both = with_part(slow, 0, 1, (3, 1))
        self.assertEqual(self.check(line, with_part(both, 3, 0, ((9, 1),))), ("no", "path", (4, 1)))
        self.assertEqual(self.check(line, far), ("no", "path", (4, 1)))
        self.assertEqual(self.check(line, both), ("no", "least", (2, 1)))
        self.assertEqual(self.check(line, slow), ("no", "least", (2, 1)))
        self.assertEqual(self.check(line, fed), ("no", "course", (pairs((3, 9, 6)),)))

    def test_the_told_limits_go_by_the_joints_as_they_are_handed_in(self):
        line = line_program(4)
        stopped = with_part(line, 1, 3, True)
        self.assertEqual(self.check(line, stopped), ("no", "course", (pairs((2, 4, 4)),)))
        near = (line[0], (((pairs((Fraction(1, 3),))), (2, 1), (0, 1), False),) + line[1])
        self.assertEqual(self.check(near, stopped), ("no", "course", (pairs((2, 12, 4)),)))
        other = (line[0], ((((pairs((Fraction(7, 6),))), (2, 1), (0, 1), False),) + line[1][1:]))
        self.assertEqual(self.check(stopped, other), ("no", "course", (pairs((2, 24, 4)),)))

    def test_all_of_some_short_ones(self):
        steps = [(pairs((to,)), feed, least, stop) for to, feed, least, stop in itertools.product(
            (1, 2), ((1, 1), (2, 1)), ((0, 1), (1, 1)), (False, True),
        )]
        made = [(pairs((0,)), (step,)) for step in steps]
        made += [(pairs((0,)), (step, last)) for step in steps for last in steps if step[0] != last[0]]
        chance = random.Random(5)
        for one, two in chance.sample(list(itertools.product(made, repeat=2)), 1500):
            self.check(one, two)


class TestErrors(unittest.TestCase):
    def test_programs(self):
        wrong = [
            (None, ()), ((PROGRAM[0], ()), (1,)), (with_part(PROGRAM, 1, 1, (0, 1)), (1, 1, 1)),
            ((PROGRAM[0], with_member(PROGRAM[1], 0, None)), (1, 0)), (((), PROGRAM[1]), (0,)),
        ]
        for program, place in wrong:
            for call in (lambda: plain(program), lambda: alike(program, None), lambda: alike(PROGRAM, program)):
                with self.assertRaises(InvalidProgram) as caught:
                    call()
                self.assertEqual(caught.exception.place, place)


if __name__ == "__main__":
    unittest.main()
