"""The examples that stand in points [6], [7] and [8] of the document."""

import unittest

from fastestalong.errors import InvalidText
from fastestalong.fractions import fraction, fraction_text, fraction_told, over, root, sum_of
from fastestalong.moves import caps, directions, lengths, move_at, point_at, pulls, turn_caps, ways
from fastestalong.programs import backwards, led, limits_fault, path, program_fault

PROGRAM = (
    ((0, 1), (0, 1)),
    ((((4, 1), (0, 1)), (2, 1), (0, 1), False), (((4, 1), (3, 1)), (3, 1), (1, 2), False)),
)
LIMITS = (((10, 1), (1, 1), (1, 1)), ((5, 1), (2, 1), (1, 2)))
SLANTING = (
    ((0, 1), (0, 1)),
    ((((4, 1), (2, 1)), (10, 1), (0, 1), False), (((8, 1), (2, 1)), (10, 1), (0, 1), False)),
)
TIGHT = (((4, 1), (5, 1), (9, 1)), ((1, 1), (5, 1), (1, 2)))


class TestExamples(unittest.TestCase):
    def test_fractions(self):
        self.assertEqual(
            [fraction(6, -4), over((1, 2), (-1, 3)), sum_of(((1, 2), (1, 3))), root((2, 1), 3), root((9, 4), 0)],
            [(-3, 2), (-3, 2), (5, 6), (707, 500), (1, 1)],
        )

    def test_fraction_texts(self):
        told = [fraction_text(number) for number in ((5, 1), (-1, 8), (201, 20), (1, 3))]
        self.assertEqual(told, ["5", "-0.125", "10.05", "1/3"])
        for text, index in (("3/4", 3), ("1.50", 4), ("0/3", 1)):
            with self.assertRaises(InvalidText) as caught:
                fraction_told(text)
            self.assertEqual(caught.exception.index, index)

    def test_programs(self):
        self.assertEqual(
            [program_fault(PROGRAM), limits_fault(PROGRAM, LIMITS), path(PROGRAM)[1:],
             limits_fault(PROGRAM, LIMITS[:1])],
            [None, None, (((4, 1), (0, 1)), ((4, 1), (3, 1))), 0],
        )
        self.assertEqual(
            backwards(PROGRAM),
            (((4, 1), (3, 1)),
             ((((4, 1), (0, 1)), (3, 1), (1, 2), False), (((0, 1), (0, 1)), (2, 1), (0, 1), False))),
        )
        self.assertEqual(program_fault((PROGRAM[0], ((PROGRAM[0], (1, 1), (0, 1), False),))), (1, 0, 0))
        self.assertEqual(led(PROGRAM, (1, 0))[1][0][0], ((0, 1), (4, 1)))
        turned = (((1, 1), (2, 1), (3, 1)), ((((0, 1), (0, 1), (0, 1)), (1, 1), (0, 1), False),))
        self.assertEqual(led(turned, (1, 2, 0))[0], ((2, 1), (3, 1), (1, 1)))

    def test_moves(self):
        self.assertEqual(
            [lengths(PROGRAM), directions(PROGRAM), ways(PROGRAM), move_at(PROGRAM, (4, 1)),
             point_at(PROGRAM, (5, 1))],
            [((4, 1), (3, 1)), (((1, 1), (0, 1)), ((0, 1), (1, 1))), ((0, 1), (4, 1), (7, 1)), 1, ((4, 1), (1, 1))],
        )
        self.assertEqual(
            [caps(PROGRAM, LIMITS), pulls(PROGRAM, LIMITS), turn_caps(PROGRAM, LIMITS)],
            [((4, 1), (9, 1)), ((1, 1), (2, 1)), ((0, 1), (1, 4), (0, 1))],
        )
        self.assertEqual(
            [directions(SLANTING)[0], caps(SLANTING, TIGHT), pulls(SLANTING, TIGHT), turn_caps(SLANTING, TIGHT)[1]],
            [((1, 1), (1, 2)), ((4, 1), (16, 1)), ((5, 1), (5, 1)), (1, 1)],
        )


if __name__ == "__main__":
    unittest.main()
