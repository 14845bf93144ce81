"""Point [9]: whether a course keeps its program, and the first fault if it does not."""

import copy
import random
import unittest
from fractions import Fraction

from fastestalong.courses import greatest, judged, square_at
from fastestalong.errors import InvalidCourse, InvalidLimits, InvalidProgram
from fastestalong.leasts import can_keep
from fastestalong.moves import whole
from oracles import Road, judgement, numbers, square_on
from samples import (
    COURSE, LIMITS, PROGRAM, course_of, number, pair, pairs, some_number, some_programs, with_member, with_part,
    wrong_courses,
)

TINY = Fraction(1, 10 ** 17)

# One axis: to 10 with the feed 2, to 20 with the feed 3, stop, to 30; squares change by 2 for each unit of way.
LINE = (pairs((0,)), (
    (pairs((10,)), (2, 1), (0, 1), False), (pairs((20,)), (3, 1), (1, 1), True), (pairs((30,)), (2, 1), (0, 1), False),
))
NO_LEAST = with_part(LINE, 1, 2, (0, 1))
AXIS = (pairs((9, 1, 1)),)


def changed(course, chance):
    """The course with a square raised or lowered, a way left out, put in or moved."""
    rows = numbers(course)
    index = chance.randrange(len(rows))
    way, square = rows[index]
    kind = chance.randrange(4)
    if kind == 0:
        by = chance.choice((TINY, Fraction(1, 3), Fraction(2)))
        rows[index] = (way, square + by if chance.random() < 0.5 else max(square - by, Fraction(0)))
    elif kind == 1 and 0 < index < len(rows) - 1:
        rows.pop(index)
    elif kind == 2:
        at = rows[-1][0] * Fraction(chance.randint(1, 96), 97)
        told = square_on(rows, at) * chance.choice((1, 1 - TINY, 1 + TINY, Fraction(1, 2), 0))
        rows = sorted({place: height for place, height in rows + [(at, told)]}.items())
    elif 0 < index < len(rows) - 1:
        rows[index] = ((rows[index - 1][0] + way) / 2, square)
    return course_of(*rows)


class TestJudged(unittest.TestCase):
    def check(self, program, limits, course):
        before = copy.deepcopy((program, limits, course))
        told = judgement(program, limits, course)
        expected = None if told is None else (told[0], pair(told[1]))
        self.assertEqual(judged(program, limits, course), expected)
        self.assertEqual(judged(course=course, limits=limits, program=program), expected)
        self.assertEqual((program, limits, course), before)
        return told and told[0]

    def test_greatest_courses_with_changes(self):
        chance, seen = random.Random(1), {}
        for program, limits in some_programs(2, 40):
            free = (program[0], tuple(step[:2] + ((0, 1),) + step[3:] for step in program[1]))
            course = greatest(program, limits)
            self.assertIsNone(judged(free, limits, course))
            for _ in range(12):
                for told in (program, free):
                    other = changed(course, chance)
                    word = self.check(told, limits, other)
                    word = self.check(told, limits, changed(other, chance))
                    seen[word] = seen.get(word, 0) + 1
        self.assertGreaterEqual(min(seen.get(word, 0) for word in ("turn", "least", "pull", None)), 10)

    def test_courses_far_below(self):
        chance, seen = random.Random(3), set()
        for program, limits in some_programs(4, 60):
            for factor in (Fraction(1, 2), Fraction(1, 10 ** 12), 1 - TINY, 1 + TINY, Fraction(3)):
                rows = [(way, square * factor) for way, square in numbers(greatest(program, limits))]
                seen.add(self.check(program, limits, course_of(*rows)))
            last = number(whole(program))
            for share in (Fraction(1, 5), Fraction(2, 3)):
                height = some_number(chance, 0, 2)
                seen.add(self.check(program, limits, course_of((0, 0), (last * share, height), (last, 0))))
            seen.add(self.check(program, limits, course_of((0, 0), (last, 0))))
        self.assertEqual(seen, {None, "turn", "cap", "least", "pull", "still"})

    def test_with_leasts_the_greatest_keeps_it_exactly_if_one_can(self):
        seen = set()
        for program, limits in some_programs(5, 150):
            told = judged(program, limits, greatest(program, limits))
            self.assertIs(told is None, can_keep(program, limits))
            self.assertTrue(told is None or told[0] == "least")
            seen.add(told is None)
        self.assertEqual(seen, {True, False})


class TestWords(unittest.TestCase):
    def check(self, program, rows, told):
        expected = None if told is None else (told[0], pair(told[1]))
        self.assertEqual(judged(program, AXIS, course_of(*rows)), expected)

    def test_none(self):
        self.check(NO_LEAST, [(0, 0), (5, 1), (10, 4), (15, 1), (20, 0), (25, 4), (30, 0)], None)
        self.check(NO_LEAST, [(0, 0), (2, 4), (10, 4), (12, 8), (16, 8), (20, 0), (22, 4), (28, 4), (30, 0)], None)
        self.check(NO_LEAST, [(0, 0), (2, 4), (10, 0), (15, 1), (20, 0), (21, 2), (30, 0)], None)

    def test_turn(self):
        base = [(0, 0), (2, 4), (10, 4), (16, 8), (20, 0), (22, 4), (28, 4), (30, 0)]
        self.check(NO_LEAST, base, None)
        for index, way in ((0, 0), (2, 10), (4, 20), (7, 30)):
            for more in (TINY, Fraction(1)):
                rows = base[:index] + [(base[index][0], base[index][1] + more)] + base[index + 1:]
                self.check(NO_LEAST, rows, ("turn", way))

    def test_turn_of_a_corner(self):
        program = (pairs((0, 0)), ((pairs((8, 0)), (4, 1), (0, 1), False), (pairs((8, 6)), (3, 1), (0, 1), False)))
        limits = (pairs((10, 2, 1)), pairs((10, 1, 2)))
        for square, told in ((1, None), (1 + TINY, ("turn", (8, 1))), (1 - TINY, None)):
            self.assertEqual(judged(program, limits, course_of((0, 0), (8, square), (14, 0))), told)

    def test_turn_is_told_of_joints_that_are_no_members(self):
        self.check(NO_LEAST, [(0, 0), (15, 7), (20, 0), (30, 0)], ("turn", 10))
        self.check(NO_LEAST, [(0, 0), (10, 4), (30, 0)], ("turn", 20))

    def test_turns_come_first(self):
        # At 5 the cap of the first move is passed, from 0 on the pull too; at 20 the tool must stand.
        self.check(NO_LEAST, [(0, 0), (1, 9), (10, 4), (20, 1), (30, 0)], ("turn", 20))
        self.check(NO_LEAST, [(0, 1), (10, 5), (20, 1), (30, 1)], ("turn", 0))
        self.check(NO_LEAST, [(0, 0), (10, 4), (20, 0), (30, 1)], ("turn", 30))

    def test_cap(self):
        for more in (TINY, Fraction(1, 2)):
            rows = [(0, 0), (4, 4 + more), (10, 4), (15, 9), (20, 0), (25, 4), (30, 0)]
            self.check(NO_LEAST, rows, ("cap", 0))
            rows = [(0, 0), (2, 4), (4, 4), (5, 4 + more), (10, 4), (15, 9), (20, 0), (25, 4), (30, 0)]
            self.check(NO_LEAST, rows, ("cap", 4))
            rows = [(0, 0), (2, 4), (10, 4), (13, 9), (14, 9 + more), (15, 9), (20, 0), (25, 4), (30, 0)]
            self.check(NO_LEAST, rows, ("cap", 13))

    def test_the_cap_is_that_of_the_move(self):
        self.check(NO_LEAST, [(0, 0), (4, 4), (10, 4), (13, 9), (15, 9), (20, 0), (25, 1), (30, 0)], None)
        self.check(NO_LEAST, [(0, 0), (4, 4), (10, 4), (15, 5), (20, 0), (23, 5), (30, 0)], ("cap", 20))

    def test_least(self):
        base = [(0, 0), (2, 4), (10, 4), (15, 1), (20, 0), (30, 0)]
        self.check(LINE, base, ("least", 15))
        self.check(with_part(LINE, 1, 3, False), [(0, 0), (10, 4), (20, 4), (30, 0)], None)
        through = with_part(LINE, 1, 3, False)
        for square, told in ((1, None), (1 - TINY, ("least", 10)), (0, ("least", 10))):
            self.check(through, [(0, 0), (10, 4), (15, square), (20, 4), (30, 0)], told)
        self.check(through, [(0, 0), (10, 1), (20, 1), (30, 0)], None)
        self.check(through, [(0, 0), (10, 1 - TINY), (20, 1), (30, 0)], ("least", 10))
        self.check(through, [(0, 0), (10, 1), (20, 1 - TINY), (30, 0)], ("least", 10))
        self.check(through, [(0, 0), (10, 1), (15, 1), (20, 1 - TINY), (30, 0)], ("least", 15))

    def test_leasts_of_the_first_and_the_last_move(self):
        rows = [(0, 0), (2, 4), (28, 4), (30, 0)]
        through = with_part(LINE, 1, 3, False)
        self.check(through, rows, None)
        self.check(with_part(through, 0, 2, (1, 10 ** 40)), rows, ("least", 0))
        self.check(with_part(through, 2, 2, (1, 10 ** 40)), rows, ("least", 28))

    def test_pull(self):
        for more, word in ((0, None), (TINY, "pull"), (1, "pull")):
            told = None if word is None else (word, 0)
            self.check(NO_LEAST, [(0, 0), (1, 2 + more), (10, 4), (20, 0), (25, 1), (30, 0)], told)
            told = None if word is None else (word, 19)
            self.check(NO_LEAST, [(0, 0), (10, 4), (19, 2 + more), (20, 0), (25, 1), (30, 0)], told)
            told = None if word is None else (word, 12)
            self.check(NO_LEAST, [(0, 0), (10, 4), (12, 3), (13, 5 + more), (20, 0), (25, 1), (30, 0)], told)

    def test_pulls_that_differ(self):
        program = (pairs((0, 0)), ((pairs((9, 0)), (9, 1), (0, 1), False), (pairs((9, 9)), (9, 1), (0, 1), False)))
        limits = (pairs((9, 1, 9)), pairs((9, 2, 9)))
        for rows, told in (
            ([(0, 0), (1, 2), (9, 4), (18, 0)], None), ([(0, 0), (1, 4), (9, 4), (18, 0)], ("pull", (0, 1))),
            ([(0, 0), (9, 4), (10, 8), (18, 0)], None), ([(0, 0), (17, 4), (18, 0)], None),
            ([(0, 0), (8, 1), (10, 7), (18, 0)], ("pull", (8, 1))), ([(0, 0), (9, 4), (11, 13), (18, 0)], ("pull", (9, 1))),
        ):
            self.assertEqual(judged(program, limits, course_of(*rows)), told)

    def test_still(self):
        self.check(NO_LEAST, [(0, 0), (30, 0)], ("still", 0))
        self.check(NO_LEAST, [(0, 0), (5, 1), (10, 0), (20, 0), (25, 1), (30, 0)], ("still", 10))
        self.check(NO_LEAST, [(0, 0), (5, 1), (12, 0), (12 + TINY, 0), (20, 0), (30, 0)], ("still", 12))
        self.check(NO_LEAST, [(0, 0), (5, 1), (12, 0), (15, 1), (20, 0), (25, 1), (30, 0)], None)
        self.check(NO_LEAST, [(0, 0), (5, 1), (15, 1), (20, 0), (30, 0)], ("still", 20))

    def test_still_comes_behind_least(self):
        through = with_part(LINE, 1, 3, False)
        self.check(through, [(0, 0), (5, 1), (10, 1), (12, 0), (15, 0), (20, 1), (30, 0)], ("least", 10))
        self.check(through, [(0, 0), (5, 1), (10, 1), (10 + TINY, 0), (15, 0), (20, 1), (30, 0)], ("least", 10))
        self.check(LINE, [(0, 0), (5, 1), (10, 0), (20, 0), (30, 0)], ("least", 10))

    def test_words_of_one_stretch_in_their_sequence(self):
        # From 10 on all of them: above the cap at one end, below the least at the other one, too steep.
        through = with_part(LINE, 1, 3, False)
        self.check(through, [(0, 0), (10, 4), (11, 10), (12, 0), (20, 4), (30, 0)], ("cap", 10))
        self.check(through, [(0, 0), (10, 4), (11, 9), (12, 0), (20, 4), (30, 0)], ("pull", 10))
        self.check(through, [(0, 0), (10, 4), (11, 0), (12, 2), (20, 4), (30, 0)], ("least", 10))
        self.check(NO_LEAST, [(0, 0), (10, 4), (11, 0), (12, 2), (20, 0), (30, 0)], ("pull", 10))

    def test_the_first_stretch_with_a_fault(self):
        self.check(NO_LEAST, [(0, 0), (1, 3), (2, 5), (10, 4), (20, 0), (30, 0)], ("pull", 0))
        self.check(NO_LEAST, [(0, 0), (2, 4), (3, 5), (4, 0), (10, 0), (20, 0), (30, 0)], ("cap", 2))
        self.check(NO_LEAST, [(0, 0), (2, 0), (3, 5), (10, 4), (20, 0), (30, 0)], ("still", 0))

    def test_a_stretch_begins_at_a_joint_that_is_no_member(self):
        # Steep enough for the first move alone.
        program = (pairs((0, 0)), ((pairs((9, 0)), (9, 1), (0, 1), False), (pairs((9, 9)), (9, 1), (0, 1), False)))
        limits = (pairs((9, 2, 9)), pairs((9, 1, 9)))
        rows = [(0, 0), (8, 8), (10, 14), (18, 0)]
        self.assertEqual(judged(program, limits, course_of(*rows)), ("pull", (9, 1)))

    def test_members_that_are_no_bends_part_stretches(self):
        self.check(NO_LEAST, [(0, 0), (1, 1), (2, 2), (4, 4), (5, 5), (10, 4), (20, 0), (30, 0)], ("cap", 4))


class TestWrongInputs(unittest.TestCase):
    def test_courses_of_other_programs(self):
        for course in (
            COURSE[:-1], COURSE[:1], COURSE + course_of((8, 0)), course_of((0, 0)),
            with_member(COURSE, 4, (pair(7 - TINY), (0, 1))), with_member(COURSE, 4, (pair(7 + TINY), (0, 1))),
        ):
            for call in (lambda: judged(PROGRAM, LIMITS, course), lambda: judged(course=course, limits=LIMITS,
                                                                                  program=PROGRAM)):
                with self.assertRaises(InvalidCourse) as caught:
                    call()
                self.assertEqual(caught.exception.index, len(course) - 1)

    def test_the_index_of_a_member_at_fault_goes_ahead(self):
        for value, index in wrong_courses(course_of((0, 0), (1, 1), (2, 0))):
            with self.assertRaises(InvalidCourse) as caught:
                judged(PROGRAM, LIMITS, value)
            self.assertEqual(caught.exception.index, index)

    def test_programs_and_limits_go_ahead(self):
        with self.assertRaises(InvalidProgram):
            judged(None, None, None)
        with self.assertRaises(InvalidLimits):
            judged(PROGRAM, LIMITS[:1], COURSE[:1])

    def test_the_sample_is_right(self):
        told = judgement(PROGRAM, LIMITS, COURSE)
        self.assertEqual(judged(PROGRAM, LIMITS, COURSE), (told[0], pair(told[1])))
        road = Road(LINE, AXIS)
        self.assertEqual((road.ways, road.caps, road.slopes), ([0, 10, 20, 30], [4, 9, 4], [2, 2, 2]))
        self.assertEqual(square_at(greatest(LINE, AXIS), (20, 1)), (0, 1))


if __name__ == "__main__":
    unittest.main()
