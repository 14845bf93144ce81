"""Point [14], fact R: a tool that runs along a program."""

import copy
import random
import unittest
from fractions import Fraction

from fastestalong.courses import greatest, is_below, judged
from fastestalong.errors import InvalidLimits, InvalidPart, InvalidProgram, InvalidWay, Refused
from fastestalong.moves import ways, whole
from fastestalong.programs import grown, grown_limits, led, led_limits, moved
from fastestalong.runs import Run
from oracles import Walk, bent, numbers, quickened, square_on
from samples import (
    LIMITS, NOT_FRACTIONS, ODD_VALUES, PROGRAM, course_of, number, pair, pairs, some_limits, some_number, some_program,
    some_programs, with_member, with_part,
)

TINY = Fraction(1, 10 ** 60)
FACTORS = [Fraction(1, 100), Fraction(1), Fraction(2), Fraction(1, 2), Fraction(3, 2), Fraction(1, 10), Fraction(7, 6)]
NOT_FACTORS = NOT_FRACTIONS + [
    (0, 1), (-1, 2), (1, 101), (99, 10000), (201, 100), (3, 1), (-1, 100), (2 * 10 ** 90 + 1, 10 ** 90),
    (10 ** 88 - 1, 10 ** 90), (4, 2), 2, "1/2",
]


def told_of(run):
    """All that a run tells."""
    return (
        run.program, run.limits, run.way, run.square, run.factor, run.held, run.journal, run.done(), run.rest(),
        run.stand(),
    )


def ways_of(chance, walk, at, low):
    """A way from low on at which something may happen: a joint, a bend, near them, or any one."""
    road = walk.road(walk.orders[-1][3])
    end = walk.stand()
    told = [way for way, _ in road.bends()] + road.ways + [end, at, (at + end) / 2]
    told += [way + TINY for way in told] + [way - TINY for way in told]
    told.append(at + (end - at) * some_number(chance, 0, 1))
    return chance.choice([way for way in told if low <= way <= end])


class TestRun(unittest.TestCase):
    def check_line(self, line, low, high, square):
        """Whether a line goes from one way to another one, by bends alone, with the square of each way."""
        rows = numbers(line)
        self.assertEqual((rows[0][0], rows[-1][0]), (low, high))
        self.assertTrue(all(ahead[0] < behind[0] for ahead, behind in zip(rows, rows[1:])))
        for index in range(1, len(rows) - 1):
            self.assertTrue(bent(rows, index), line)
        marks = [way for way, _ in rows]
        marks += [(ahead + behind) / 2 for ahead, behind in zip(marks, marks[1:])]
        marks += [low + (high - low) * Fraction(k, 13) for k in range(14)]
        for way in marks:
            self.assertEqual(square_on(rows, way), square(way))

    def check(self, run, walk, way):
        """Whether a run at a way tells what the walk does."""
        order = walk.orders[-1]
        self.assertEqual((run.way, run.square), pairs((way, walk.square(way))))
        self.assertEqual((run.factor, run.held), (pair(order[3]), order[2]))
        self.assertIs(type(run.held), bool)
        self.check_line(run.done(), Fraction(0), way, walk.square)
        self.check_line(run.rest(), way, walk.stand(), lambda at: walk.rest_at(order, at))
        self.assertEqual(run.stand(), pair(walk.stand()))
        self.assertEqual(run.stand(), run.rest()[-1][0])
        self.assertEqual((run.program, run.limits), (walk.program, walk.limits))

    def told_one(self, chance, run, walk, way):
        """One more order, told to both."""
        choice = chance.randrange(3)
        if choice == 0:
            factor = chance.choice(FACTORS)
            self.assertIsNone(run.feed(pair(factor)))
            walk.tell(way, factor=factor)
            return ("feed", pair(way), pair(factor))
        if run.held:
            self.assertIsNone(run.go_on())
            walk.tell(way, held=False)
            return ("on", pair(way))
        if way == number(whole(run.program)):
            return None
        self.assertIsNone(run.hold())
        walk.tell(way, held=True)
        return ("hold", pair(way))

    def check_run(self, chance, program, limits, many):
        before = copy.deepcopy((program, limits))
        run, walk, journal, way = Run(program, limits), Walk(program, limits), (), Fraction(0)
        for _ in range(many):
            if chance.random() < 0.7:
                way = ways_of(chance, walk, way, way)
                self.assertIsNone(run.go(pair(way)))
                self.check(run, walk, way)
            if chance.random() < 0.7:
                entry = self.told_one(chance, run, walk, way)
                journal += (entry,) if entry else ()
                self.assertEqual(run.journal, journal)
                self.check(run, walk, way)
        self.assertEqual((program, limits), before)

    def test_with_orders(self):
        chance = random.Random(1)
        for program, limits in some_programs(1, 24):
            self.check_run(chance, program, limits, 8)

    def test_with_many_orders_on_short_programs(self):
        chance = random.Random(2)
        for _ in range(30):
            program = some_program(chance, chance.randint(1, 2), chance.randint(1, 3))
            self.check_run(chance, program, some_limits(chance, len(program[0])), 25)

    def test_with_orders_that_reach_over_joints(self):
        chance = random.Random(3)
        over = 0
        for _ in range(12):
            program = some_program(chance, chance.randint(2, 3), 8)
            steps = tuple((step[0], (40, 1), (0, 1), False) for step in program[1])
            limits = tuple(((60, 1), axis[1], (50, 1)) for axis in some_limits(chance, len(program[0])))
            self.check_run(chance, (program[0], steps), limits, 6)
            run = Run((program[0], steps), limits)
            walk, way = Walk((program[0], steps), limits), number(whole(program)) / 2
            run.go(pair(way))
            run.hold()
            walk.tell(way, held=True)
            self.check(run, walk, way)
            over += len([joint for joint in ways(program) if way < number(joint) < walk.stand()])
        self.assertGreater(over, 12)

    def test_a_stand_close_to_a_joint(self):
        program = (pairs((0,)), ((pairs((10,)), (2, 1), (0, 1), False),))
        for way, stand in (((15, 2), (19, 2)), ((8, 1), (10, 1)), ((79, 10), (99, 10))):
            run = Run(program, (pairs((9, 1, 0)),))
            run.go(way)
            run.hold()
            self.assertEqual((run.square, run.stand(), run.rest()), ((4, 1), stand, ((way, (4, 1)), (stand, (0, 1)))))

    def test_known_one(self):
        program = (pairs((0,)), ((pairs((10,)), (2, 1), (0, 1), False),))
        run = Run(program, (pairs((9, 1, 0)),))
        run.feed((1, 2))
        run.go((5, 1))
        self.assertEqual(run.square, (1, 1))
        run.feed((2, 1))
        self.assertEqual(run.rest(), course_of((5, 1), (Fraction(29, 4), Fraction(11, 2)), (10, 0)))
        run.hold()
        self.assertEqual(run.rest(), course_of((5, 1), (Fraction(11, 2), 0)))
        self.assertEqual(run.stand(), (11, 2))
        self.assertEqual(run.done(), course_of((0, 0), (Fraction(1, 2), 1), (5, 1)))
        self.assertEqual(run.journal, (("feed", (0, 1), (1, 2)), ("feed", (5, 1), (2, 1)), ("hold", (5, 1))))
        run.go(way=(11, 2))
        self.assertEqual(run.rest(), (((11, 2), (0, 1)),))
        run.feed(factor=(1, 100))
        run.go_on()
        self.assertEqual(run.factor, (1, 100))
        self.assertEqual(run.rest()[1][1], (1, 2500))

    def test_hold_where_the_square_is_0(self):
        program = with_part(PROGRAM, 0, 3, True)
        for way in ((0, 1), (4, 1)):
            run = Run(program, LIMITS)
            run.go(way)
            run.hold()
            self.assertEqual((run.stand(), run.rest()), (way, ((way, (0, 1)),)))
            with self.assertRaises(Refused):
                run.go(pair(number(way) + TINY))
            run.go(way)
            run.go_on()
            self.assertEqual(run.rest()[-1], ((7, 1), (0, 1)))

    def test_at_the_end(self):
        run = Run(PROGRAM, LIMITS)
        run.go((7, 1))
        self.assertEqual(run.done(), greatest(PROGRAM, LIMITS))
        self.assertEqual((run.rest(), run.stand()), ((((7, 1), (0, 1)),), (7, 1)))
        before = told_of(run)
        with self.assertRaises(Refused):
            run.hold()
        with self.assertRaises(Refused):
            run.go_on()
        self.assertEqual(told_of(run), before)
        run.feed((3, 2))
        self.assertEqual((run.journal, run.factor), ((("feed", (7, 1), (3, 2)),), (3, 2)))
        self.assertEqual((run.rest(), run.stand()), ((((7, 1), (0, 1)),), (7, 1)))

    def test_held_up_to_the_end(self):
        program = (pairs((0,)), ((pairs((10,)), (2, 1), (0, 1), False),))
        run = Run(program, (pairs((9, 1, 0)),))
        run.go((9, 1))
        run.hold()
        self.assertEqual((run.stand(), run.rest()), ((10, 1), course_of((9, 2), (10, 0))))
        run.go((10, 1))
        with self.assertRaises(Refused):
            run.hold()
        run.go_on()
        self.assertEqual((run.held, run.rest()), (False, (((10, 1), (0, 1)),)))


class TestWithoutOrders(unittest.TestCase):
    def test_at_the_beginning(self):
        for program, limits in some_programs(11, 40):
            run = Run(program, limits)
            first = ((0, 1), (0, 1))
            self.assertEqual((run.way, run.square, run.factor, run.held, run.journal), first + ((1, 1), False, ()))
            self.assertEqual(run.done(), (first,))
            self.assertEqual(run.rest(), greatest(program, limits))
            self.assertEqual(run.stand(), whole(program))
            self.assertIs(run.program, program)
            self.assertIs(run.limits, limits)

    def test_on_and_on(self):
        chance = random.Random(12)
        for program, limits in some_programs(12, 40):
            run, course = Run(limits=limits, program=program), greatest(program, limits)
            rows = numbers(course)
            end = rows[-1][0]
            marks = sorted({end * some_number(chance, 0, 1) for _ in range(6)} | {way for way, _ in rows[:4]} | {end})
            for way in marks:
                for _ in range(2):
                    self.assertIsNone(run.go(pair(way)))
                    self.assertEqual((run.way, run.square), pairs((way, square_on(rows, way))))
                    done = [row for row in rows if row[0] < way] + [(way, square_on(rows, way))]
                    self.assertEqual(run.done(), course_of(*done))
                    rest = [(way, square_on(rows, way))] + [row for row in rows if row[0] > way]
                    self.assertEqual(run.rest(), course_of(*rest))
            self.assertEqual(run.done(), course)
            self.assertEqual(run.journal, ())

    def test_wrong_ways(self):
        run = Run(PROGRAM, LIMITS)
        run.go((2, 1))
        before = told_of(run)
        for way in ODD_VALUES + [(19, 10), (0, 1), (-1, 1), (8, 1), (71, 10), (6, 2), (2, 0)]:
            with self.assertRaises(InvalidWay):
                run.go(way)
            self.assertEqual(told_of(run), before)
        run.go((2, 1))
        self.assertEqual(told_of(run), before)


class TestManySteps(unittest.TestCase):
    def test_they_change_nothing(self):
        chance = random.Random(21)
        for program, limits in some_programs(21, 40):
            walk, orders, at = Walk(program, limits), [], Fraction(0)
            for _ in range(5):
                at = ways_of(chance, walk, at, at)
                held = chance.choice((True, False)) if at < walk.road(Fraction(1)).ways[-1] else False
                factor = chance.choice(FACTORS)
                orders.append((at, held, factor))
                walk.tell(at, held, factor)
            runs = [self.run_of(chance, program, limits, orders, many) for many in (0, 0, 1, 7)]
            for run in runs[1:]:
                self.assertEqual(told_of(run), told_of(runs[0]))

    def run_of(self, chance, program, limits, orders, many):
        run = Run(program, limits)
        for way, held, factor in orders:
            at = number(run.way)
            for part in sorted(some_number(chance, 0, 1) for _ in range(many)):
                run.go(pair(at + (way - at) * part))
            run.go(pair(way))
            run.feed(pair(factor))
            if held != run.held:
                run.hold() if held else run.go_on()
        return run

    def test_what_was_told_ahead_stays(self):
        run = Run(PROGRAM, LIMITS)
        run.go((1, 1))
        run.feed((1, 2))
        kept = (run.done(), run.rest(), run.journal)
        same = copy.deepcopy(kept)
        run.go((3, 1))
        run.hold()
        run.go(run.stand())
        run.go_on()
        self.assertEqual(kept, same)
        for told in (run.done(), run.rest(), run.journal):
            self.assertIs(type(told), tuple)
            self.assertTrue(all(type(member) is tuple for member in told))

    def test_two_runs_do_not_touch_one_another(self):
        one, other = Run(PROGRAM, LIMITS), Run(PROGRAM, LIMITS)
        fresh = told_of(other)
        one.go((3, 1))
        one.feed((1, 3))
        one.hold()
        self.assertEqual(told_of(other), fresh)
        before = told_of(one)
        other.go((6, 1))
        other.feed((2, 1))
        self.assertEqual(told_of(one), before)


class TestOrdersAtOneWay(unittest.TestCase):
    def runs_at(self, seed, many):
        chance = random.Random(seed)
        for program, limits in some_programs(seed, many):
            factor = chance.choice(FACTORS)
            way = pair(number(whole(program)) * some_number(chance, 0, 1) * Fraction(9, 10))
            made = []
            for _ in range(2):
                run = Run(program, limits)
                run.feed(pair(factor))
                run.go(way)
                made.append(run)
            yield made

    def test_the_last_factor_counts(self):
        for one, other in self.runs_at(31, 30):
            one.feed((1, 100))
            one.feed((2, 1))
            one.feed((3, 4))
            other.feed((3, 4))
            self.assertEqual(told_of(one)[:6] + told_of(one)[7:], told_of(other)[:6] + told_of(other)[7:])

    def test_the_same_factor_again(self):
        for one, other in self.runs_at(32, 30):
            one.feed(one.factor)
            self.assertEqual(one.journal, other.journal + (("feed", one.way, one.factor),))
            self.assertEqual(told_of(one)[:6] + told_of(one)[7:], told_of(other)[:6] + told_of(other)[7:])

    def test_hold_and_on(self):
        for one, other in self.runs_at(33, 30):
            if one.way == whole(one.program):
                continue
            one.hold()
            one.go_on()
            self.assertEqual(one.journal, other.journal + (("hold", one.way), ("on", one.way)))
            self.assertEqual(told_of(one)[:6] + told_of(one)[7:], told_of(other)[:6] + told_of(other)[7:])
            end = whole(one.program)
            one.go(end)
            other.go(end)
            self.assertEqual(one.done(), other.done())

    def test_a_factor_told_to_a_held_one(self):
        for one, other in self.runs_at(34, 30):
            if one.way == whole(one.program):
                continue
            one.hold()
            stand = one.rest()
            one.feed((1, 7))
            self.assertEqual((one.rest(), one.factor), (stand, (1, 7)))
            one.go_on()
            other.feed((1, 7))
            self.assertEqual(one.rest(), other.rest())


class TestFacts(unittest.TestCase):
    def finished(self, chance, program, limits):
        """A run that was told something here and there, at the end."""
        run, walk, way = Run(program, limits), Walk(program, limits), Fraction(0)
        for _ in range(6):
            way = ways_of(chance, walk, way, way)
            run.go(pair(way))
            factor = chance.choice(FACTORS)
            held = chance.random() < 0.4 and way < walk.road(factor).ways[-1]
            run.feed(pair(factor))
            if held != run.held:
                run.hold() if held else run.go_on()
            walk.tell(way, held, factor)
        if run.held:
            run.go(run.stand())
            run.go_on()
        run.go(whole(program))
        return run

    def test_nothing_that_binds_is_broken(self):
        chance = random.Random(41)
        for program, limits in some_programs(41, 60):
            course = self.finished(chance, program, limits).done()
            # With feeds twice as great, and more so without them, all caps are those that no factor passes.
            self.assertIsNone(judged(quickened(program, 2), limits, course))

    def test_greater_and_lesser_factors(self):
        chance = random.Random(42)
        for program, limits in some_programs(42, 40):
            way = number(whole(program)) * some_number(chance, 0, 1)
            rests = []
            for factor in sorted(FACTORS):
                run = Run(program, limits)
                run.feed((1, 3))
                run.go(pair(way))
                run.feed(pair(factor))
                rests.append([(at - way, square) for at, square in numbers(run.rest())])
            for lesser, greater in zip(rests, rests[1:]):
                self.assertIs(is_below(course_of(*lesser), course_of(*greater)), True)

    def test_a_hold_put_off_stands_further_on(self):
        chance = random.Random(43)
        for program, limits in some_programs(43, 40):
            end = number(whole(program))
            marks = sorted({end * some_number(chance, 0, 1) for _ in range(8)} - {end})
            stands = []
            for way in marks:
                run = Run(program, limits)
                run.go(pair(way))
                run.hold()
                stands.append(number(run.stand()))
                self.assertLessEqual(way, stands[-1])
                self.assertLessEqual(stands[-1], end)
            self.assertEqual(stands, sorted(stands))

    def test_factors_told_at_first(self):
        for program, limits in some_programs(44, 40):
            for factor in FACTORS:
                run = Run(program, limits)
                run.feed((1, 50))
                run.feed(pair(factor))
                course = greatest(quickened(program, factor), limits)
                self.assertEqual(run.rest(), course)
                run.go(whole(program))
                self.assertEqual(run.done(), course)

    def test_no_course_that_keeps_the_caps_is_greater(self):
        # From a way and a square on: a lower and a later course is never above the rest.
        for program, limits in some_programs(45, 30):
            run = Run(program, limits)
            run.go(pair(number(whole(program)) / 3))
            run.hold()
            held = [(at - number(run.way), square) for at, square in numbers(run.rest())]
            run.go_on()
            rest = [(at - number(run.way), square) for at, square in numbers(run.rest())]
            for way, square in held:
                self.assertLessEqual(square, square_on(rest, way))


class TestChangedPrograms(unittest.TestCase):
    def entries(self, chance, program, limits):
        """The done line and the orders of a run, as numbers."""
        run, walk, way, orders = Run(program, limits), Walk(program, limits), Fraction(0), []
        for _ in range(4):
            way = ways_of(chance, walk, way, way)
            run.go(pair(way))
            factor = chance.choice(FACTORS)
            run.feed(pair(factor))
            walk.tell(way, factor=factor)
            orders.append((way, factor))
        run.go(whole(program))
        return numbers(run.done()), orders

    def again(self, program, limits, orders):
        run = Run(program, limits)
        for way, factor in orders:
            run.go(pair(way))
            run.feed(pair(factor))
        run.go(whole(program))
        return numbers(run.done())

    def test_them(self):
        chance = random.Random(51)
        for program, limits in some_programs(51, 40):
            done, orders = self.entries(chance, program, limits)
            shift = pairs(some_number(chance, -9, 9) for _ in limits)
            self.assertEqual(self.again(moved(program, shift), limits, orders), done)
            order = list(range(len(limits)))
            chance.shuffle(order)
            turned = (led(program, tuple(order)), led_limits(program, limits, tuple(order)))
            self.assertEqual(self.again(*turned, orders), done)
            for factor in (Fraction(3), Fraction(2, 7)):
                many = (grown(program, pair(factor)), grown_limits(program, limits, pair(factor)))
                rows = [(way * factor, square * factor ** 2) for way, square in done]
                self.assertEqual(self.again(*many, [(way * factor, part) for way, part in orders]), rows)


class TestRefusals(unittest.TestCase):
    def test_factors(self):
        run = Run(PROGRAM, LIMITS)
        run.go((1, 1))
        run.feed((1, 2))
        before = told_of(run)
        for factor in NOT_FACTORS:
            with self.assertRaises(InvalidPart):
                run.feed(factor)
            self.assertEqual(told_of(run), before)
        for factor in ((1, 100), (2, 1), (10 ** 88 + 1, 10 ** 90), (2 * 10 ** 90 - 1, 10 ** 90)):
            run.feed(factor)
            self.assertEqual(run.factor, factor)

    def test_hold_and_on(self):
        run = Run(PROGRAM, LIMITS)
        for way in ((0, 1), (1, 1), (4, 1)):
            run.go(way)
            before = told_of(run)
            with self.assertRaises(Refused):
                run.go_on()
            self.assertEqual(told_of(run), before)
            run.hold()
            before = told_of(run)
            with self.assertRaises(Refused):
                run.hold()
            self.assertEqual(told_of(run), before)
            run.go_on()

    def test_ways_behind_its_stand(self):
        run = Run(PROGRAM, LIMITS)
        run.go((1, 1))
        run.hold()
        stand = number(run.stand())
        self.assertEqual(stand, 2)
        before = told_of(run)
        for way in (stand + TINY, Fraction(3), Fraction(7)):
            with self.assertRaises(Refused):
                run.go(pair(way))
            self.assertEqual(told_of(run), before)
        for way in ((1, 2), (8, 1), None, (4, 2), (0, 1), True):
            with self.assertRaises(InvalidWay):
                run.go(way)
            self.assertEqual(told_of(run), before)
        run.go((2, 1))
        for way in ((5, 1), (2 * 10 ** 80 + 1, 10 ** 80)):
            with self.assertRaises(Refused):
                run.go(way)
        for way in ((1, 1), (2 * 10 ** 80 - 1, 10 ** 80), (71, 10)):
            with self.assertRaises(InvalidWay):
                run.go(way)

    def test_what_makes_no_run(self):
        for program, place in (
            (None, ()), (PROGRAM[:1], ()), ((None, PROGRAM[1]), (0,)), ((PROGRAM[0], ()), (1,)),
            (with_part(PROGRAM, 1, 2, (4, 1)), (1, 1, 2)), (with_part(PROGRAM, 0, 3, 0), (1, 0, 3)),
        ):
            for limits in (LIMITS, None):
                with self.assertRaises(InvalidProgram) as caught:
                    Run(program, limits)
                self.assertEqual(caught.exception.place, place)
        for limits, index in (
            (None, 0), (LIMITS[:1], 0), (list(LIMITS), 0), (with_member(LIMITS, 1, ((1, 1), (0, 1), (1, 1))), 1),
        ):
            with self.assertRaises(InvalidLimits) as caught:
                Run(PROGRAM, limits)
            self.assertEqual(caught.exception.index, index)

    def test_properties_are_read_alone(self):
        run = Run(PROGRAM, LIMITS)
        for name in ("program", "limits", "way", "square", "factor", "held", "journal"):
            with self.assertRaises(AttributeError):
                setattr(run, name, None)

    def test_ways_told_at_joints(self):
        run = Run(PROGRAM, LIMITS)
        for way in ways(PROGRAM):
            run.go(way)
            run.feed((1, 2))
        self.assertEqual([entry[1] for entry in run.journal], list(ways(PROGRAM)))


if __name__ == "__main__":
    unittest.main()
