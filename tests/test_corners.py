"""Point [15], fact C: corners cut and rounded."""

import copy
import random
import unittest
from fractions import Fraction

from fastestalong.corners import corners, cut, off, room, rounded
from fastestalong.errors import InvalidFraction, InvalidPart, InvalidProgram, Refused, TooMany
from fastestalong.moves import point_at, ways, whole
from fastestalong.programs import is_program
from samples import (
    NOT_ABOVE_NOUGHT, NOT_FRACTIONS, ODD_VALUES, PROGRAM, Whole, line_program, number, pair, pairs, some_number,
    some_program, with_part,
)

TINY = Fraction(1, 10 ** 60)


def points_of(program):
    return [[number(part) for part in program[0]]] + [[number(part) for part in step[0]] for step in program[1]]


def moves_of(program):
    """The (length, direction) of each move."""
    points, told = points_of(program), []
    for begin, end in zip(points, points[1:]):
        distance = [to - at for at, to in zip(begin, end)]
        length = max(abs(part) for part in distance)
        told.append((length, [part / length for part in distance]))
    return told


def corners_of(program):
    moves, told = moves_of(program), []
    for index in range(len(moves) - 1):
        ahead, behind = moves[index][1], moves[index + 1][1]
        if not program[1][index][3] and behind != ahead and behind != [-part for part in ahead]:
            told.append(index)
    return told


def turn_of(program, corner):
    moves = moves_of(program)
    return max(abs(e - d) for e, d in zip(moves[corner][1], moves[corner + 1][1]))


def room_of(program, corner, tolerance):
    moves = moves_of(program)
    return min(moves[corner][0] / 3, moves[corner + 1][0] / 3, 2 * tolerance / turn_of(program, corner))


def cut_of(program, corner, amount):
    """The program with a corner cut, as the point says it."""
    moves, point = moves_of(program), points_of(program)[corner + 1]
    ahead, behind = program[1][corner:corner + 2]
    first = pairs(part - amount * e for part, e in zip(point, moves[corner][1]))
    last = pairs(part + amount * d for part, d in zip(point, moves[corner + 1][1]))
    feed = min(ahead[1], behind[1], key=number)
    least = min(ahead[2], behind[2], key=number)
    chord = ((first,) + ahead[1:], (last, feed, least, False))
    return (program[0], program[1][:corner] + chord + program[1][corner + 1:])


def apart(program, told, corner, chord, amount):
    """Fact C: how far points of a chord are from the points of the path at the same part of what was cut."""
    joint = number(ways(program)[corner + 1])
    begin, end = (number(way) for way in ways(told)[chord:chord + 2])
    for part in (Fraction(k, 8) for k in range(9)):
        one = point_at(told, pair(begin + (end - begin) * part))
        other = point_at(program, pair(joint - amount + 2 * amount * part))
        yield max(abs(number(at) - number(to)) for at, to in zip(one, other)), part


def zigzag(many):
    """A program of so many moves, each at right angles to the one ahead."""
    steps, at = [], [0, 0]
    for index in range(many):
        at[index % 2] += 3
        steps.append((pairs(at), (2, 1), (0, 1), False))
    return (pairs((0, 0)), tuple(steps))


def some_cornered(seed, many):
    """Many programs of some moves on two or three axes, and a corner of each."""
    chance = random.Random(seed)
    told = 0
    while told < many:
        program = some_program(chance, chance.randint(2, 3), chance.choice((2, 3, 5, 8)))
        found = corners_of(program)
        if found:
            told += 1
            yield program, chance.choice(found)


class TestCorners(unittest.TestCase):
    def test_known_ones(self):
        straight = (pairs((0, 0)), tuple((pairs((k, k)), (1, 1), (0, 1), False) for k in (1, 3, 2)))
        self.assertEqual(corners(straight), ())
        self.assertEqual(corners(line_program(30)), ())
        self.assertEqual(corners(zigzag(4)), (0, 1, 2))
        self.assertEqual(corners(with_part(zigzag(4), 1, 3, True)), (0, 2))
        self.assertEqual(corners(with_part(zigzag(4), 3, 3, True)), (0, 1, 2))
        # Back along one axis alone is no opposite.
        back = (pairs((0, 0)), ((pairs((2, 1)), (1, 1), (0, 1), False), (pairs((0, 2)), (1, 1), (0, 1), False)))
        self.assertEqual(corners(back), (0,))

    def test_of_any_kind(self):
        chance = random.Random(1)
        for _ in range(200):
            program = some_program(chance)
            told = corners(program)
            self.assertIs(type(told), tuple)
            self.assertEqual(list(told), corners_of(program))
            self.assertEqual(corners(program=program), told)
            self.assertTrue(all(type(corner) is int for corner in told))


class TestOff(unittest.TestCase):
    def test_of_any_kind(self):
        chance = random.Random(2)
        for program, corner in some_cornered(2, 100):
            moves = moves_of(program)
            least = min(moves[corner][0], moves[corner + 1][0])
            for amount in (least * Fraction(chance.randint(1, 99), 100), TINY, least - TINY):
                told = pair(amount / 2 * turn_of(program, corner))
                self.assertEqual(off(program, corner, pair(amount)), told)
                self.assertEqual(off(amount=pair(amount), corner=corner, program=program), told)


class TestCut(unittest.TestCase):
    def test_of_any_kind(self):
        chance = random.Random(3)
        for program, corner in some_cornered(3, 120):
            before = copy.deepcopy(program)
            moves = moves_of(program)
            least = min(moves[corner][0], moves[corner + 1][0])
            for amount in (least * Fraction(chance.randint(1, 99), 100), least - TINY):
                told = cut(program, corner, pair(amount))
                self.assertEqual(told, cut_of(program, corner, amount))
                self.assertEqual(told, cut(amount=pair(amount), corner=corner, program=program))
                self.assertTrue(is_program(told))
                self.assertLessEqual(number(whole(told)), number(whole(program)))
                self.check_near(program, told, corner, amount)
            self.assertEqual(program, before)

    def check_near(self, program, told, corner, amount):
        for far, part in apart(program, told, corner, corner + 1, amount):
            most = number(off(program, corner, pair(amount)))
            self.assertLessEqual(far, most)
            if part == Fraction(1, 2):
                self.assertEqual(far, most)

    def test_stops_and_leasts(self):
        first = (pairs((4, 0)), (5, 1), (2, 1), False)
        second = (pairs((4, 4)), (3, 1), (3, 1), True)
        program = (pairs((0, 0)), (first, second))
        self.assertEqual(cut(program, 0, (1, 1)), (pairs((0, 0)), (
            (pairs((3, 0)), (5, 1), (2, 1), False), (pairs((4, 1)), (3, 1), (2, 1), False), second,
        )))

    def test_of_thirty_and_of_twenty_nine_moves(self):
        many = zigzag(30)
        with self.assertRaises(TooMany) as caught:
            cut(many, 3, (1, 1))
        self.assertEqual(caught.exception.count, 30)
        self.assertEqual(off(many, 3, (1, 1)), (1, 2))
        self.assertEqual(room(many, 3, (9, 1)), (1, 1))
        told = cut(zigzag(29), 3, (1, 1))
        self.assertEqual(told, cut_of(zigzag(29), 3, 1))
        self.assertTrue(is_program(told))
        for amount in ((3, 1), (0, 1)):
            with self.assertRaises(Refused):
                cut(many, 3, amount)


class TestRoom(unittest.TestCase):
    def test_of_any_kind(self):
        for program, corner in some_cornered(4, 100):
            for tolerance in (TINY, Fraction(1, 7), Fraction(1), Fraction(10 ** 9)):
                told = room(program, corner, pair(tolerance))
                self.assertEqual(told, pair(room_of(program, corner, tolerance)))
                self.assertEqual(told, room(tolerance=pair(tolerance), corner=corner, program=program))
                self.assertLessEqual(number(off(program, corner, told)), tolerance)


class TestRounded(unittest.TestCase):
    def test_the_corners_one_behind_the_other_from_the_last_one_on(self):
        chance = random.Random(5)
        for _ in range(120):
            program = some_program(chance, None, chance.choice((1, 2, 3, 5, 8, 14)))
            tolerance = chance.choice((TINY, Fraction(1, 9), Fraction(2), Fraction(10 ** 9)))
            told = program
            for corner in corners_of(program)[::-1]:
                # A chord's step is told by those of the program, and so is what one behind the other gives.
                told = cut(told, corner, pair(room_of(program, corner, tolerance)))
            before = copy.deepcopy(program)
            self.assertEqual(rounded(program, pair(tolerance)), told)
            self.assertEqual(rounded(tolerance=pair(tolerance), program=program), told)
            self.assertEqual(program, before)
            self.assertTrue(is_program(told))
            self.assertLessEqual(number(whole(told)), number(whole(program)))

    def test_feeds_and_leasts(self):
        steps = tuple(
            step[:1] + told + (False,) for step, told in zip(zigzag(4)[1], (
                ((2, 1), (1, 1)), ((7, 1), (1, 2)), ((3, 1), (0, 1)), ((1, 2), (1, 2)),
            ))
        )
        told = rounded((zigzag(4)[0], steps), (1, 4))
        self.assertEqual([step[1:3] for step in told[1]], [
            ((2, 1), (1, 1)), ((2, 1), (1, 2)), ((7, 1), (1, 2)), ((3, 1), (0, 1)), ((3, 1), (0, 1)),
            ((1, 2), (0, 1)), ((1, 2), (1, 2)),
        ])

    def test_near_the_path(self):
        for program, _ in some_cornered(6, 40):
            tolerance = Fraction(1, 5)
            told = rounded(program, pair(tolerance))
            for index, corner in enumerate(corners_of(program)):
                amount = room_of(program, corner, tolerance)
                for far, _ in apart(program, told, corner, corner + index + 1, amount):
                    self.assertLessEqual(far, tolerance)
            self.assertEqual(len(told[1]), len(program[1]) + len(corners_of(program)))
            self.assertEqual((told[0], told[1][-1]), (program[0], program[1][-1]))

    def test_too_many(self):
        for many, fits in ((15, True), (16, False), (30, False)):
            if fits:
                self.assertEqual(len(rounded(zigzag(many), (1, 1))[1]), 2 * many - 1)
                continue
            with self.assertRaises(TooMany) as caught:
                rounded(zigzag(many), (1, 1))
            self.assertEqual(caught.exception.count, 30)
        just = zigzag(16)
        just = with_part(just, 4, 3, True)
        self.assertEqual(len(rounded(just, (1, 1))[1]), 30)
        self.assertEqual(rounded(line_program(30), (1, 1)), line_program(30))
        last = with_part(line_program(3), 2, 3, True)
        self.assertEqual(rounded(last, (1, 1)), last)


class TestErrors(unittest.TestCase):
    def test_what_is_no_corner(self):
        stopped = with_part(zigzag(4), 1, 3, True)
        for corner in [value for value in ODD_VALUES if value != 0 or type(value) is not int] + [
            -1, 3, 4, Whole(0), "0", (0, 1), (0,), 10 ** 90,
        ]:
            if corner == 1 and type(corner) is int:
                program = stopped
            else:
                program = zigzag(4)
            for amount in ((1, 1), None, (0, 1)):
                for call in (off, cut, room):
                    with self.assertRaises(InvalidPart):
                        call(program, corner, amount)
        for corner in (0, 1):
            straight = (pairs((0, 0)), tuple((pairs((k, k)), (1, 1), (0, 1), False) for k in (1, 3, 2)))
            with self.assertRaises(InvalidPart):
                cut(straight, corner, (1, 2))

    def test_amounts(self):
        for call in (off, cut):
            for amount in NOT_FRACTIONS:
                with self.assertRaises(InvalidFraction):
                    call(PROGRAM, 0, amount)
            for amount in ((0, 1), (-1, 2), (3, 1), (4, 1), pair(3 + TINY), (10 ** 90, 1), (-10 ** 90, 1)):
                with self.assertRaises(Refused):
                    call(PROGRAM, 0, amount)
            call(PROGRAM, 0, pair(3 - TINY))
            call(PROGRAM, 0, pair(TINY))

    def test_tolerances(self):
        for tolerance in NOT_ABOVE_NOUGHT:
            with self.assertRaises(InvalidFraction):
                room(PROGRAM, 0, tolerance)
            for program in (PROGRAM, line_program(2), zigzag(30)):
                with self.assertRaises(InvalidFraction):
                    rounded(program, tolerance)

    def test_their_sequence(self):
        wrong = (PROGRAM[0], ())
        for call in (
            lambda: corners(wrong), lambda: off(wrong, None, None), lambda: cut(wrong, None, None),
            lambda: room(wrong, None, None), lambda: rounded(wrong, None), lambda: off(None, 0, (1, 1)),
        ):
            with self.assertRaises(InvalidProgram):
                call()
        for call in (cut, off):
            with self.assertRaises(InvalidFraction):
                call(zigzag(30), 0, (2, 4))
            with self.assertRaises(Refused):
                call(zigzag(30), 0, (-1, 1))

    def test_amounts_that_come_of_calls(self):
        chance = random.Random(7)
        for program, corner in some_cornered(7, 20):
            tolerance = pair(some_number(chance, 1, 3) / 7)
            amount = room(program, corner, tolerance)
            self.assertEqual(cut(program, corner, amount), cut_of(program, corner, number(amount)))


if __name__ == "__main__":
    unittest.main()
