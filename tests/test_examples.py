"""The examples that stand in the points of the document."""

import unittest

from fastestalong.ahead import ahead, enough, slower
from fastestalong.alike import alike, plain
from fastestalong.binding import binding, gains
from fastestalong.console import Console
from fastestalong.corners import corners, off, room, rounded
from fastestalong.courses import greatest, is_below, judged, square_at
from fastestalong.drawn import clock, profile, ribbon, trail
from fastestalong.errors import InvalidText
from fastestalong.fractions import fraction, fraction_text, fraction_told, over, root, sum_of
from fastestalong.leasts import bar, sums
from fastestalong.moves import caps, directions, lengths, move_at, point_at, pulls, turn_caps, ways
from fastestalong.programs import backwards, led, limits_fault, path, program_fault
from fastestalong.pulses import counts_at, gaps, pulses, pulses_fault
from fastestalong.runs import Run, run_again
from fastestalong.texts import course_text, limits_told, program_text, program_told, shortest
from fastestalong.times import exact_time, is_by, pace, sooner, told_time

PROGRAM = (
    ((0, 1), (0, 1)),
    ((((4, 1), (0, 1)), (2, 1), (0, 1), False), (((4, 1), (3, 1)), (3, 1), (1, 2), False)),
)
LIMITS = (((10, 1), (1, 1), (1, 1)), ((5, 1), (2, 1), (1, 2)))
SLANTING = (
    ((0, 1), (0, 1)),
    ((((4, 1), (2, 1)), (10, 1), (0, 1), False), (((8, 1), (2, 1)), (10, 1), (0, 1), False)),
)
TIGHT = (((4, 1), (5, 1), (9, 1)), ((1, 1), (5, 1), (1, 2)))

# From point [9] on the document has another program.
CORNER = (
    ((0, 1), (0, 1)),
    ((((8, 1), (0, 1)), (4, 1), (0, 1), False), (((8, 1), (6, 1)), (3, 1), (0, 1), False)),
)
BOUNDS = (((10, 1), (2, 1), (1, 1)), ((10, 1), (1, 1), (2, 1)))


class TestExamples(unittest.TestCase):
    def test_fractions(self):
        self.assertEqual(
            [fraction(6, -4), over((1, 2), (-1, 3)), sum_of(((1, 2), (1, 3))), root((2, 1), 3), root((9, 4), 0)],
            [(-3, 2), (-3, 2), (5, 6), (707, 500), (1, 1)],
        )

    def test_fraction_texts(self):
        told = [fraction_text(number) for number in ((5, 1), (-1, 8), (201, 20), (1, 3))]
        self.assertEqual(told, ["5", "-0.125", "10.05", "1/3"])
        for text, index in (("3/4", 3), ("1.50", 4), ("0/3", 1)):
            with self.assertRaises(InvalidText) as caught:
                fraction_told(text)
            self.assertEqual(caught.exception.index, index)

    def test_programs(self):
        self.assertEqual(
            [program_fault(PROGRAM), limits_fault(PROGRAM, LIMITS), path(PROGRAM)[1:],
             limits_fault(PROGRAM, LIMITS[:1])],
            [None, None, (((4, 1), (0, 1)), ((4, 1), (3, 1))), 0],
        )
        self.assertEqual(
            backwards(PROGRAM),
            (((4, 1), (3, 1)),
             ((((4, 1), (0, 1)), (3, 1), (1, 2), False), (((0, 1), (0, 1)), (2, 1), (0, 1), False))),
        )
        self.assertEqual(program_fault((PROGRAM[0], ((PROGRAM[0], (1, 1), (0, 1), False),))), (1, 0, 0))
        self.assertEqual(led(PROGRAM, (1, 0))[1][0][0], ((0, 1), (4, 1)))
        turned = (((1, 1), (2, 1), (3, 1)), ((((0, 1), (0, 1), (0, 1)), (1, 1), (0, 1), False),))
        self.assertEqual(led(turned, (1, 2, 0))[0], ((2, 1), (3, 1), (1, 1)))

    def test_moves(self):
        self.assertEqual(
            [lengths(PROGRAM), directions(PROGRAM), ways(PROGRAM), move_at(PROGRAM, (4, 1)),
             point_at(PROGRAM, (5, 1))],
            [((4, 1), (3, 1)), (((1, 1), (0, 1)), ((0, 1), (1, 1))), ((0, 1), (4, 1), (7, 1)), 1, ((4, 1), (1, 1))],
        )
        self.assertEqual(
            [caps(PROGRAM, LIMITS), pulls(PROGRAM, LIMITS), turn_caps(PROGRAM, LIMITS)],
            [((4, 1), (9, 1)), ((1, 1), (2, 1)), ((0, 1), (1, 4), (0, 1))],
        )
        self.assertEqual(
            [directions(SLANTING)[0], caps(SLANTING, TIGHT), pulls(SLANTING, TIGHT), turn_caps(SLANTING, TIGHT)[1]],
            [((1, 1), (1, 2)), ((4, 1), (16, 1)), ((5, 1), (5, 1)), (1, 1)],
        )

    def test_courses(self):
        fastest = (
            ((0, 1), (0, 1)), ((4, 1), (16, 1)), ((17, 4), (16, 1)), ((8, 1), (1, 1)), ((43, 4), (13, 2)),
            ((14, 1), (0, 1)),
        )
        self.assertEqual(greatest(CORNER, BOUNDS), fastest)
        slow = (((0, 1), (0, 1)), ((7, 1), (1, 1)), ((14, 1), (0, 1)))
        self.assertEqual(
            [judged(CORNER, BOUNDS, slow), square_at(slow, (7, 2)), is_below(slow, greatest(CORNER, BOUNDS))],
            [None, (1, 2), True],
        )
        for course, told in (
            ((((0, 1), (0, 1)), ((8, 1), (2, 1)), ((14, 1), (0, 1))), ("turn", (8, 1))),
            ((((0, 1), (0, 1)), ((1, 8), (1, 1)), ((14, 1), (0, 1))), ("pull", (0, 1))),
        ):
            self.assertEqual(judged(CORNER, BOUNDS, course), told)

    def test_leasts(self):
        first, second = CORNER[1]
        quick = (CORNER[0], (
            first, (second[0], (3, 1), (1, 1), False), (((20, 1), (6, 1)), (3, 1), (0, 1), False),
        ))
        self.assertEqual(
            [sums(quick, BOUNDS), bar(quick, BOUNDS)],
            [(((8, 1), (8, 1), (8, 1)), ((0, 1), (8, 1), (31, 1)), ((8, 1), (8, 1), (0, 1)),
              ((14, 1), (14, 1), (0, 1)), ((26, 1), (14, 1), (47, 1))), None],
        )

    def test_ahead(self):
        self.assertEqual(
            [ahead(CORNER, BOUNDS, 1)[1:4], slower(CORNER, BOUNDS, 1), enough(CORNER, BOUNDS)],
            [(((4, 1), (16, 1)), ((8, 1), (0, 1)), ((11, 1), (6, 1))), (((4, 1), (11, 1)),), 2],
        )

    def test_times(self):
        course = (((0, 1), (0, 1)), ((2, 1), (4, 1)), ((5, 1), (4, 1)), ((6, 1), (2, 1)))
        self.assertEqual(
            [exact_time(course, (0, 1), (5, 1)), exact_time(course, (5, 1), (6, 1)),
             told_time(course, (5, 1), (6, 1), 3), told_time(course, (1, 1), (2, 1), 2)],
            [(7, 2), None, (117, 200), (29, 50)],
        )
        self.assertEqual(
            [pace(course, (1, 1), 2), is_by(course, (2, 1), (2, 1)), is_by(course, (2, 1), (199, 100)),
             sooner(course, course[:3])],
            [(141, 100), True, False, 1],
        )

    def test_pulses(self):
        trip = (((0, 1), (0, 1)), (
            (((2, 1), (1, 1)), (5, 1), (0, 1), False), (((3, 2), (1, 1)), (5, 1), (0, 1), False),
            (((3, 1), (1, 1)), (5, 1), (0, 1), False),
        ))
        sizes = ((1, 1), (2, 1))
        self.assertEqual(pulses(trip, sizes), (((1, 2), 0, 1), ((3, 2), 0, 1), ((7, 2), 0, 1)))
        self.assertEqual(
            [counts_at(trip, sizes, (3, 2)), counts_at(trip, sizes, (2, 1)), gaps(trip, sizes),
             pulses_fault(trip, sizes, (((1, 2), 0, 1),))],
            [(1, 0), (2, 0), ((1, 1), None), 1],
        )

    def test_runs(self):
        program = (((0, 1),), ((((10, 1),), (2, 1), (0, 1), False),))
        run = Run(program, (((9, 1), (1, 1), (0, 1)),))
        self.assertEqual(
            [run.rest(), run.go((4, 1)), run.square, run.feed((1, 2)), run.rest()],
            [(((0, 1), (0, 1)), ((2, 1), (4, 1)), ((8, 1), (4, 1)), ((10, 1), (0, 1))), None, (4, 1), None,
             (((4, 1), (4, 1)), ((11, 2), (1, 1)), ((19, 2), (1, 1)), ((10, 1), (0, 1)))],
        )
        self.assertEqual(
            [run.go((5, 1)), run.hold(), run.stand(), run.go((6, 1)), run.square, run.go_on(), run.rest()[0],
             run.rest()[-2:]],
            [None, None, (6, 1), None, (0, 1), None, ((6, 1), (0, 1)), (((19, 2), (1, 1)), ((10, 1), (0, 1)))],
        )
        self.assertEqual(
            [run.done()[-3:], run.journal, run_again(program, run.limits, run.journal, (6, 1)).done() == run.done()],
            [(((2, 1), (4, 1)), ((4, 1), (4, 1)), ((6, 1), (0, 1))),
             (("feed", (4, 1), (1, 2)), ("hold", (5, 1)), ("on", (6, 1))), True],
        )

    def test_corners(self):
        self.assertEqual(
            [corners(PROGRAM), off(PROGRAM, 0, (1, 1)), room(PROGRAM, 0, (1, 4)), room(PROGRAM, 0, (9, 1))],
            [(0,), (1, 2), (1, 2), (1, 1)],
        )
        self.assertEqual(
            path(rounded(PROGRAM, (1, 4))),
            (((0, 1), (0, 1)), ((7, 2), (0, 1)), ((4, 1), (1, 2)), ((4, 1), (3, 1))),
        )
        self.assertEqual(rounded(PROGRAM, (1, 4))[1][1], (((4, 1), (1, 2)), (2, 1), (0, 1), False))

    def test_alike(self):
        parted = (CORNER[0], ((((3, 1), (0, 1)), (4, 1), (0, 1), False),) + CORNER[1])
        late = (CORNER[0], (CORNER[1][0], CORNER[1][1][:1] + ((2, 1), (0, 1), True)))
        self.assertEqual(
            [plain(parted) == CORNER, alike(parted, CORNER), alike(CORNER, late)],
            [True, ("yes",), ("no", "course", (((4, 1), (8, 3), (8, 1)), ((4, 1), (8, 3), (8, 1))))],
        )

    def test_binding(self):
        self.assertEqual(
            [binding(CORNER, BOUNDS)[1:3], gains(CORNER, BOUNDS, 0), gains(CORNER, BOUNDS, 1)],
            [(((4, 1), (17, 4), "feed", None, None), ((17, 4), (8, 1), "down", 0, (8, 1))), (0, 1), (8, 1)],
        )

    def test_texts(self):
        text = "start x 0 y 100.5\nto x 10 feed 2\nby y -0.25 stop\nto x 10.5 y 7 least 1/3"
        told = program_told(text)
        self.assertEqual(
            told[1][1:],
            ((((10, 1), (401, 4)), (2, 1), (0, 1), True), (((21, 2), (7, 1)), (2, 1), (1, 3), False)),
        )
        self.assertEqual([program_text(told), shortest(told)], [text.replace("by y -0.25", "to y 100.25"), text])
        self.assertEqual(
            [limits_told("x speed 5 rate 2 jump 0"), course_text((((0, 1), (0, 1)), ((1, 3), (4, 1))))],
            [(((5, 1), (2, 1), (0, 1)),), "0 0\n1/3 4"],
        )
        with self.assertRaises(InvalidText) as caught:
            program_told("start x 0\nto x 1")
        self.assertEqual(caught.exception.index, 16)

    def test_drawn(self):
        course = (((0, 1), (0, 1)), ((2, 1), (4, 1)), ((5, 1), (4, 1)), ((6, 1), (2, 1)))
        self.assertEqual([profile(course, 6, 2), clock(course, 6)], [(".+###+", "+#####"), "||-|-|"])
        program = (((0, 1), (0, 1)), (
            (((3, 1), (0, 1)), (2, 1), (0, 1), False), (((3, 1), (3, 1)), (1, 1), (0, 1), False),
        ))
        limits = (((5, 1), (1, 1), (1, 1)),) * 2
        self.assertEqual(
            [trail(program, 4, 4), ribbon(program, limits, course, 6)],
            [("...*", "...+", "....", "o.+*"), ">>#!!!"],
        )

    def test_console(self):
        desk = Console()
        lines = (
            "program\nstart x 0\nto x 10 feed 2", "limits\nx speed 9 rate 1 jump 0", "go 4", "feed 0.5", "rest", "go 5",
            "hold", "stand", "here",
        )
        self.assertEqual(
            [desk.execute(line) for line in lines],
            ["", "", "4", "", "4 4\n5.5 1\n9.5 1\n10 0", "2", "", "6", "5 2 0.5 held"],
        )
        lines = ("journal", "again 5.5\nfeed 4 0.5\nhold 5", "done", "bar", "profile 5 2")
        self.assertEqual(
            [desk.execute(line) for line in lines],
            ["feed 4 0.5\nhold 5", "", "0 0\n2 4\n4 4\n5.5 1", "none", ".###.\n#####"],
        )


if __name__ == "__main__":
    unittest.main()
