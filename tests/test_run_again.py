"""Point [14]: runs done again by their journals."""

import copy
import random
import unittest
from fractions import Fraction

from fastestalong.errors import InvalidLimits, InvalidPart, InvalidProgram, InvalidWay
from fastestalong.moves import whole
from fastestalong.runs import Run, run_again
from oracles import Walk
from samples import (
    LIMITS, NEAR_FRACTIONS, ODD_VALUES, PROGRAM, Row, Shelf, Word, number, pair, some_limits, some_number,
    some_program, with_member,
)
from test_runs import FACTORS, NOT_FACTORS, TINY, told_of, ways_of


def some_run(chance, program, limits, many):
    """A run that was told much, with what it told behind each order."""
    run, walk, way, told = Run(program, limits), Walk(program, limits), Fraction(0), []
    end = whole(program)
    while len(run.journal) < many:
        way = ways_of(chance, walk, way, way)
        run.go(pair(way))
        choice = chance.randrange(3)
        if choice == 0:
            factor = chance.choice(FACTORS)
            run.feed(pair(factor))
            walk.tell(way, factor=factor)
        elif run.held:
            run.go_on()
            walk.tell(way, held=False)
        elif run.way != end:
            run.hold()
            walk.tell(way, held=True)
        else:
            continue
        told.append(told_of(run))
    return run, told


def held_run():
    """A run with a journal of all kinds of orders, held at the way 5; it stands at 5.5."""
    program = (((0, 1),), ((((10, 1),), (2, 1), (0, 1), False),))
    run = Run(program, (((9, 1), (1, 1), (0, 1)),))
    run.go((2, 1))
    run.hold()
    run.go((3, 1))
    run.go_on()
    run.feed((1, 2))
    run.go((5, 1))
    run.hold()
    return run


class TestRunAgain(unittest.TestCase):
    def goes_on_alike(self, chance, one, other):
        self.assertEqual(told_of(one), told_of(other))
        for _ in range(3):
            way = pair(number(one.way) + (number(one.stand()) - number(one.way)) * some_number(chance, 0, 1))
            for run in (one, other):
                run.go(way)
                run.feed((3, 7))
                if run.held:
                    run.go_on()
            self.assertEqual(told_of(one), told_of(other))

    def test_of_any_kind(self):
        chance = random.Random(1)
        for _ in range(40):
            program = some_program(chance, None, chance.randint(1, 6))
            limits = some_limits(chance, len(program[0]))
            run, told = some_run(chance, program, limits, 8)
            journal, before = run.journal, copy.deepcopy((program, limits, run.journal))
            for many, kept in enumerate(told, 1):
                begin = run_again(program, limits, journal[:many], kept[2])
                self.assertEqual(told_of(begin), kept)
            again = run_again(way=run.way, journal=journal, limits=limits, program=program)
            self.assertIs(type(again), Run)
            self.assertEqual((program, limits, journal), before)
            on = pair(number(run.way) + (number(run.stand()) - number(run.way)) * some_number(chance, 0, 1))
            further = run_again(program, limits, journal, on)
            run.go(on)
            again.go(on)
            self.assertEqual(told_of(further), told_of(run))
            self.goes_on_alike(chance, run, again)
            self.assertEqual(further.way, on)

    def test_without_entries(self):
        for way in ((0, 1), (5, 2), (7, 1)):
            run = Run(PROGRAM, LIMITS)
            run.go(way)
            self.assertEqual(told_of(run_again(PROGRAM, LIMITS, (), way)), told_of(run))

    def test_what_is_held_and_what_is_at_the_end(self):
        run = held_run()
        for way in ((5, 1), (21, 4), (11, 2)):
            again = run_again(run.program, run.limits, run.journal, way)
            self.assertEqual((again.way, again.held, again.factor, again.stand()), (way, True, (1, 2), (11, 2)))
        end = run_again(PROGRAM, LIMITS, (("feed", (7, 1), (2, 1)),), (7, 1))
        self.assertEqual(end.factor, (2, 1))

    def test_a_hundred_orders(self):
        chance = random.Random(2)
        program = some_program(chance, 3, 30)
        limits = some_limits(chance, 3)
        run, end = Run(program, limits), number(whole(program))
        for part in sorted(Fraction(chance.randrange(1000), 1000) for _ in range(100)):
            run.go(pair(max(number(run.way), min(number(run.stand()), end * part * Fraction(9, 10)))))
            if run.held:
                run.go_on()
            elif chance.random() < 0.4:
                run.hold()
            else:
                run.feed(pair(some_number(chance, 1, 2)))
        self.assertEqual(len(run.journal), 100)
        again = run_again(program, limits, run.journal, run.way)
        self.assertEqual(told_of(again), told_of(run))


class TestErrors(unittest.TestCase):
    def refused(self, journal, way=(9, 1)):
        run = held_run()
        for call in (
            lambda: run_again(run.program, run.limits, journal, way),
            lambda: run_again(way=None, journal=journal, limits=run.limits, program=run.program),
        ):
            with self.assertRaises(InvalidPart):
                call()

    def test_journals_that_no_run_has(self):
        tiny, end = pair(TINY), (10, 1)
        for entries in (
            [("feed", (3, 1), (1, 1)), ("feed", pair(3 - TINY), (1, 1))], [("feed", pair(10 + TINY), (1, 1))],
            [("feed", (-1, 1), (1, 1))], [("on", (0, 1))], [("hold", (0, 1)), ("hold", (0, 1))],
            [("hold", (0, 1)), ("feed", tiny, (1, 1))], [("hold", (0, 1)), ("on", tiny)], [("hold", end)],
            [("hold", (2, 1)), ("on", pair(4 + TINY))], [("hold", (1, 1)), ("on", (1, 1)), ("on", (1, 1))],
            [("hold", (2, 1)), ("feed", (1, 1), (1, 1))], [("hold", (9, 1)), ("hold", end)],
            [("feed", (1, 1), (1, 1)), ("hold", (0, 1))], [("hold", (9, 1)), ("on", end), ("hold", end)],
        ):
            self.refused(tuple(entries))

    def test_those_that_are_nearly_so(self):
        run = held_run()
        for entries, way in (
            ([("feed", (3, 1), (1, 1)), ("feed", (3, 1), (1, 1))], (3, 1)), ([("feed", (10, 1), (1, 1))], (10, 1)),
            ([("feed", (0, 1), (1, 100)), ("feed", (0, 1), (2, 1))], (0, 1)), ([("hold", (0, 1))], (0, 1)),
            ([("hold", (2, 1)), ("on", (4, 1))], (4, 1)), ([("hold", pair(10 - TINY))], pair(10 - TINY)),
            ([("hold", (9, 1)), ("feed", (10, 1), (1, 1)), ("on", (10, 1))], (10, 1)),
        ):
            again = run_again(run.program, run.limits, tuple(entries), way)
            self.assertEqual((again.journal, again.way), (tuple(entries), way))

    def test_factors(self):
        for factor in NOT_FACTORS:
            self.refused((("feed", (1, 1), factor),))

    def test_ways(self):
        for way in NEAR_FRACTIONS + [value for value in ODD_VALUES if value != (0, 1)]:
            self.refused((("feed", way, (1, 1)),))
            self.refused((("hold", way),))

    def test_kinds_and_forms(self):
        run = held_run()
        journal = run.journal
        for value in ODD_VALUES + [list(journal), Row(journal), Shelf(journal), (journal,), journal[0], {}]:
            if value != ():
                self.refused(value)
        for index, entry in enumerate(journal):
            for member in (
                None, (), list(entry), Row(entry), entry[:-1], entry + (None,), entry + entry[-1:], entry[1:],
                (Word(entry[0]),) + entry[1:], (entry[0].upper(),) + entry[1:], (entry[0] + " ",) + entry[1:],
                ("go_on",) + entry[1:], ("stop",) + entry[1:], ("",) + entry[1:], (None,) + entry[1:],
                (entry[0], list(entry[1])) + entry[2:], (entry[0], Row(entry[1])) + entry[2:], (entry[0],), entry[0],
                ((entry[0],),) + entry[1:], ([],) + entry[1:], ({},) + entry[1:], (entry[0].encode(),) + entry[1:],
            ):
                self.refused(with_member(journal, index, member))
        self.refused(journal + (None,))
        self.refused(journal[1:])

    def test_ways_to_go_to(self):
        run = held_run()
        told = (run.program, run.limits, run.journal)
        for way in ODD_VALUES + [
            (0, 1), pair(5 - TINY), pair(Fraction(11, 2) + TINY), (10, 1), (11, 1), (-1, 1), (10, 2), [5, 1], Row((5, 1)), (True, 1),
        ]:
            with self.assertRaises(InvalidWay):
                run_again(*told, way)
            with self.assertRaises(InvalidWay):
                run_again(way=way, journal=told[2], limits=told[1], program=told[0])
        with self.assertRaises(InvalidWay):
            run_again(PROGRAM, LIMITS, (), (71, 10))

    def test_the_first_wrong_one_counts(self):
        for program in (None, (PROGRAM[0], ())):
            with self.assertRaises(InvalidProgram):
                run_again(program, None, None, None)
        with self.assertRaises(InvalidLimits) as caught:
            run_again(PROGRAM, LIMITS[:1], None, None)
        self.assertEqual(caught.exception.index, 0)
        with self.assertRaises(InvalidPart):
            run_again(PROGRAM, LIMITS, None, None)
        with self.assertRaises(InvalidPart):
            run_again(PROGRAM, LIMITS, (("hold", (1, 1)), ("hold", (1, 1))), (0, 1))
        with self.assertRaises(InvalidWay):
            run_again(PROGRAM, LIMITS, (("hold", (1, 1)),), (0, 1))


if __name__ == "__main__":
    unittest.main()
