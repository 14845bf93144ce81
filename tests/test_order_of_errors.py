"""Points [3], [4]: of several wrong arguments the error of the first one is raised."""

import copy
import itertools
import unittest

from fastestalong import (
    ahead, alike, binding, corners, courses, drawn, fractions, leasts, moves, programs, pulses, runs, texts, times,
)
from fastestalong.errors import (
    CourseError, InvalidCount, InvalidCourse, InvalidFraction, InvalidIndex, InvalidLimits, InvalidPart, InvalidProgram,
    InvalidText, InvalidWay, Refused,
)
from samples import COURSE, LIMITS, ODD_VALUES, PROGRAM, START, line_program, with_member, with_part, with_step

FRACTION = ((3, 4), [(value, InvalidFraction, None) for value in (None, (2, 4), (True, 1), [1, 2], (1, 0))])
WAYS = [(value, InvalidWay, None) for value in (None, (-1, 1), (8, 1), (10, 2))]
COURSES = [
    (None, InvalidCourse, 0), ((), InvalidCourse, 0), (list(COURSE), InvalidCourse, 0), (COURSE[1:], InvalidCourse, 0),
    (with_member(COURSE, 2, ((4, 1), (-1, 1))), InvalidCourse, 2), (COURSE + COURSE[-1:], InvalidCourse, len(COURSE)),
]

# Of each parameter a right argument, and wrong ones with their errors and what these keep.
PARAMETERS = {
    "top": (6, [(None, InvalidFraction, None), (True, InvalidFraction, None), ((1, 2), InvalidFraction, None)]),
    "bottom": (-4, [(None, InvalidFraction, None), (0, InvalidFraction, None), (False, InvalidFraction, None)]),
    "one": FRACTION,
    "other": FRACTION,
    "number": ((9, 4), FRACTION[1] + [((0, 2), InvalidFraction, None)]),
    "numbers": (((1, 2), (1, 3)), [([], InvalidFraction, None), ((1, 2), InvalidFraction, None)]),
    "digits": (3, [(value, InvalidCount, None) for value in (-1, 31, None, True, (3, 1), "3")]),
    "text": ("0.5", [("0.50", InvalidText, 4), (None, InvalidText, 0), ("", InvalidText, 0), ("1 ", InvalidText, 1)]),
    "program": (PROGRAM, [
        (None, InvalidProgram, ()), (PROGRAM[:1], InvalidProgram, ()), (list(PROGRAM), InvalidProgram, ()),
        ((None, PROGRAM[1]), InvalidProgram, (0,)), ((START, ()), InvalidProgram, (1,)),
        (line_program(31), InvalidProgram, (1,)), (with_step(PROGRAM, 1, None), InvalidProgram, (1, 1)),
        (with_part(PROGRAM, 0, 0, START), InvalidProgram, (1, 0, 0)),
        (with_part(PROGRAM, 1, 1, (0, 1)), InvalidProgram, (1, 1, 1)),
        (with_part(PROGRAM, 1, 2, (4, 1)), InvalidProgram, (1, 1, 2)),
        (with_part(PROGRAM, 0, 3, 0), InvalidProgram, (1, 0, 3)),
    ]),
    "limits": (LIMITS, [
        (None, InvalidLimits, 0), (LIMITS[:1], InvalidLimits, 0), (list(LIMITS), InvalidLimits, 0),
        (with_member(LIMITS, 0, LIMITS[0][:2]), InvalidLimits, 0),
        (with_member(LIMITS, 1, ((1, 1), (0, 1), (1, 1))), InvalidLimits, 1),
        (with_member(LIMITS, 1, ((1, 1), (1, 1), (-1, 1))), InvalidLimits, 1),
    ]),
    "shift": (START, [(None, InvalidPart, None), (START[:1], InvalidPart, None), (list(START), InvalidPart, None)]),
    "factor": ((2, 1), [(None, InvalidFraction, None), ((0, 1), InvalidFraction, None), (2, InvalidFraction, None)]),
    "order": ((1, 0), [(None, InvalidPart, None), ((1, 1), InvalidPart, None), ([1, 0], InvalidPart, None)]),
    "way": ((5, 1), WAYS),
    "low": ((1, 1), WAYS),
    "high": ((5, 1), WAYS),
    "course": (COURSE, COURSES),
    "other_course": (COURSE, COURSES),
    "known": (2, [(value, InvalidCount, None) for value in (0, 31, None, True, (3, 1), "3")]),
    "moment": ((3, 1), FRACTION[1]),
    "sizes": (((1, 1), (1, 2)), [
        (value, InvalidPart, None)
        for value in (None, ((1, 1),), [(1, 1), (1, 1)], ((1, 1), (0, 1)), ((2, 4), (1, 1)), ((1, 1), 1))
    ]),
    "journal": ((("hold", (1, 1)), ("on", (1, 1))), [
        (value, InvalidPart, None)
        for value in (None, [], (("on", (0, 1)),), (("hold", (7, 1)),), (("feed", (1, 1), (3, 1)),), (("hold", None),))
    ]),
    "corner": (0, [(value, InvalidPart, None) for value in (None, False, 1, -1, (0, 1), "0")]),
    "amount": ((1, 1), FRACTION[1] + [((0, 1), Refused, None), ((3, 1), Refused, None), ((-1, 2), Refused, None)]),
    "tolerance": ((1, 4), FRACTION[1] + [((0, 1), InvalidFraction, None), ((-1, 4), InvalidFraction, None)]),
    "other_program": (line_program(3), [
        (None, InvalidProgram, ()), ((START, ()), InvalidProgram, (1,)),
        (with_part(PROGRAM, 1, 1, (0, 1)), InvalidProgram, (1, 1, 1)),
    ]),
    "axis": (1, [(value, InvalidIndex, None) for value in (None, True, 2, -1, (1, 1), "x")]),
    "wide": (12, [(value, InvalidCount, None) for value in (0, 121, None, True, (3, 1), "3", -1)]),
    "tall": (3, [(value, InvalidCount, None) for value in (0, 61, None, True, (3, 1), "3", -1)]),
}


def run_way(program, limits):
    return runs.Run(program=program, limits=limits).rest()


def run_again_way(program, limits, journal, way):
    return runs.run_again(program=program, limits=limits, journal=journal, way=way).rest()


CALLS = [
    (fractions.fraction, "top bottom"), (fractions.plus, "one other"), (fractions.minus, "one other"),
    (fractions.times, "one other"), (fractions.over, "one other"), (fractions.below, "one other"),
    (fractions.sum_of, "numbers"), (fractions.root, "number digits"), (fractions.fraction_text, "number"),
    (fractions.fraction_told, "text"), (programs.limits_fault, "program value"), (programs.is_limits, "program value"),
    (programs.axis_count, "program"), (programs.path, "program"), (programs.moved, "program shift"),
    (programs.backwards, "program"), (programs.grown, "program factor"),
    (programs.grown_limits, "program limits factor"), (programs.led, "program order"),
    (programs.led_limits, "program limits order"), (moves.lengths, "program"), (moves.directions, "program"),
    (moves.ways, "program"), (moves.whole, "program"), (moves.move_at, "program way"),
    (moves.point_at, "program way"), (moves.caps, "program limits"), (moves.pulls, "program limits"),
    (moves.turn_caps, "program limits"), (courses.greatest, "program limits"),
    (courses.judged, "program limits course"), (courses.square_at, "course way"),
    (courses.is_below, "course other_course"), (leasts.sums, "program limits"), (leasts.bar, "program limits"),
    (leasts.can_keep, "program limits"), (ahead.ahead, "program limits known"),
    (ahead.slower, "program limits known"), (ahead.enough, "program limits"), (times.exact_time, "course low high"),
    (times.told_time, "course low high digits"), (times.sooner, "course other_course"),
    (times.is_by, "course way moment"), (times.pace, "course way digits"), (pulses.pulses, "program sizes"),
    (pulses.counts_at, "program sizes way"), (pulses.gaps, "program sizes"),
    (pulses.pulses_fault, "program sizes value"), (run_way, "program limits"),
    (run_again_way, "program limits journal way"), (corners.corners, "program"),
    (corners.off, "program corner amount"), (corners.cut, "program corner amount"),
    (corners.room, "program corner tolerance"), (corners.rounded, "program tolerance"), (alike.plain, "program"),
    (alike.alike, "program other_program"), (binding.binding, "program limits"),
    (binding.gains, "program limits axis"), (texts.program_text, "program"), (texts.shortest, "program"),
    (drawn.profile, "course wide tall"), (drawn.ribbon, "program limits course wide"), (drawn.clock, "course wide"),
    (drawn.trail, "program wide tall"),
]


def choices(name):
    """A right argument and all wrong ones; of `value`, for which nothing is raised, right ones alone."""
    if name == "value":
        return [(LIMITS, None, None), (None, None, None), ((), None, None)]
    right, wrong = PARAMETERS[name]
    return [(right, None, None)] + wrong


class TestOrderOfErrors(unittest.TestCase):
    def check(self, call, told, error, kept):
        before = copy.deepcopy(told)
        for answer in (lambda: call(*told.values()), lambda: call(**dict(reversed(told.items())))):
            with self.assertRaises(CourseError) as caught:
                answer()
            self.assertIs(type(caught.exception), error, (call.__name__, told))
            for field in ("place", "index"):
                if hasattr(caught.exception, field):
                    self.assertEqual(getattr(caught.exception, field), kept, (call.__name__, told))
                    self.assertIs(type(getattr(caught.exception, field)), type(kept))
        self.assertEqual(told, before)

    def test_all_calls_with_all_choices(self):
        for call, names in CALLS:
            names = names.split()
            for chosen in itertools.product(*[choices(name) for name in names]):
                told = {name: choice[0] for name, choice in zip(names, chosen)}
                wrong = [choice for choice in chosen if choice[1] is not None]
                if wrong:
                    self.check(call, told, wrong[0][1], wrong[0][2])
                else:
                    self.assertEqual(call(*told.values()), call(**told))

    def test_any_value_in_each_place(self):
        for call, names in CALLS:
            names = names.split()
            for name in names:
                if name == "value":
                    continue
                right, wrong = PARAMETERS[name]
                for value in ODD_VALUES:
                    told = {other: choices(other)[0][0] for other in names}
                    told[name] = value
                    if isinstance(value, (int, str, tuple)):
                        continue
                    with self.assertRaises(wrong[0][1]):
                        call(**told)

    def test_numbers_that_are_fractions_and_still_are_not_taken(self):
        with self.assertRaises(InvalidFraction):
            fractions.over((1, 2), (0, 1))
        with self.assertRaises(InvalidFraction):
            fractions.root((-9, 4), 31)


if __name__ == "__main__":
    unittest.main()
