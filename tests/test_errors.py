"""Point [5]: the errors."""

import unittest

from fastestalong import errors
from fastestalong.ahead import ahead
from fastestalong.courses import greatest, is_below, judged, square_at
from fastestalong.times import exact_time, is_by, told_time
from samples import COURSE, LIMITS, PROGRAM

WITH_TEXT = ["InvalidFraction", "InvalidWay", "InvalidIndex", "InvalidCount", "InvalidPart", "Refused"]
WITH_FIELD = [
    ("InvalidProgram", "place"), ("InvalidLimits", "index"), ("InvalidCourse", "index"), ("InvalidText", "index"),
    ("InvalidCommand", "index"), ("TooMany", "count"), ("Unknown", "word"), ("Twice", "word"),
]
ALL = WITH_TEXT + [name for name, _ in WITH_FIELD]


class TestErrors(unittest.TestCase):
    def test_course_error_stands_under_value_error(self):
        self.assertEqual(errors.CourseError.__bases__, (ValueError,))

    def test_each_stands_directly_under_course_error(self):
        for name in ALL:
            self.assertEqual(getattr(errors, name).__bases__, (errors.CourseError,), name)

    def test_none_is_caught_as_another_one(self):
        for name in ALL:
            for other in ALL:
                told = issubclass(getattr(errors, name), getattr(errors, other))
                self.assertEqual(told, name == other, (name, other))

    def test_each_is_caught_as_course_error_and_as_value_error(self):
        for name in ALL:
            for caught in (errors.CourseError, ValueError):
                with self.assertRaises(caught):
                    raise getattr(errors, name)("why")

    def test_texts(self):
        for name in WITH_TEXT:
            self.assertEqual(str(getattr(errors, name)("as it is")), "as it is")

    def test_fields_keep_the_very_value(self):
        values = [(1, 0, 2), (), 0, -1, 10 ** 89, "word", "", None, True, False, [1, [2]], object(), {}, 0.5]
        for name, field in WITH_FIELD:
            made = getattr(errors, name)
            for value in values:
                self.assertIs(getattr(made(value), field), value, name)
                self.assertIs(getattr(made(**{field: value}), field), value, name)

    def test_fields_have_no_other_names(self):
        for name, field in WITH_FIELD:
            made = getattr(errors, name)
            for other in {"place", "index", "count", "word"} - {field}:
                self.assertFalse(hasattr(made(1), other), (name, other))
                with self.assertRaises(TypeError):
                    made(**{other: 1})
            with self.assertRaises(TypeError):
                made()
            with self.assertRaises(TypeError):
                made(1, 2)

    def test_those_of_calls_on_courses(self):
        still = (((0, 1), (0, 1)), ((7, 1), (0, 1)))
        for call, name, kept in (
            (lambda: greatest(PROGRAM[:1], LIMITS), "InvalidProgram", ()),
            (lambda: greatest(PROGRAM, LIMITS[:1]), "InvalidLimits", 0),
            (lambda: judged(PROGRAM, LIMITS, COURSE[:2]), "InvalidCourse", 1),
            (lambda: square_at(COURSE[::-1], (0, 1)), "InvalidCourse", 0),
            (lambda: square_at(COURSE, (8, 1)), "InvalidWay", None),
            (lambda: is_below(COURSE, COURSE[:2]), "Refused", None),
            (lambda: ahead(PROGRAM, LIMITS, 0), "InvalidCount", None),
            (lambda: exact_time(COURSE, (2, 1), (1, 1)), "InvalidPart", None),
            (lambda: told_time(still, (1, 1), (2, 1), 0), "Refused", None),
            (lambda: is_by(COURSE, (2, 1), 1), "InvalidFraction", None),
        ):
            for caught in (getattr(errors, name), errors.CourseError, ValueError):
                with self.assertRaises(caught) as told:
                    call()
                self.assertIs(type(told.exception), getattr(errors, name))
            if kept is not None:
                self.assertEqual(getattr(told.exception, dict(WITH_FIELD)[name]), kept)


if __name__ == "__main__":
    unittest.main()
