"""Point [5]: the errors."""

import unittest

from fastestalong import errors

WITH_TEXT = ["InvalidFraction", "InvalidWay", "InvalidIndex", "InvalidCount", "InvalidPart", "Refused"]
WITH_FIELD = [
    ("InvalidProgram", "place"), ("InvalidLimits", "index"), ("InvalidCourse", "index"), ("InvalidText", "index"),
    ("InvalidCommand", "index"), ("TooMany", "count"), ("Unknown", "word"), ("Twice", "word"),
]
ALL = WITH_TEXT + [name for name, _ in WITH_FIELD]


class TestErrors(unittest.TestCase):
    def test_course_error_stands_under_value_error(self):
        self.assertEqual(errors.CourseError.__bases__, (ValueError,))

    def test_each_stands_directly_under_course_error(self):
        for name in ALL:
            self.assertEqual(getattr(errors, name).__bases__, (errors.CourseError,), name)

    def test_none_is_caught_as_another_one(self):
        for name in ALL:
            for other in ALL:
                told = issubclass(getattr(errors, name), getattr(errors, other))
                self.assertEqual(told, name == other, (name, other))

    def test_each_is_caught_as_course_error_and_as_value_error(self):
        for name in ALL:
            for caught in (errors.CourseError, ValueError):
                with self.assertRaises(caught):
                    raise getattr(errors, name)("why")

    def test_texts(self):
        for name in WITH_TEXT:
            self.assertEqual(str(getattr(errors, name)("as it is")), "as it is")

    def test_fields_keep_the_very_value(self):
        values = [(1, 0, 2), (), 0, -1, 10 ** 89, "word", "", None, True, False, [1, [2]], object(), {}, 0.5]
        for name, field in WITH_FIELD:
            made = getattr(errors, name)
            for value in values:
                self.assertIs(getattr(made(value), field), value, name)
                self.assertIs(getattr(made(**{field: value}), field), value, name)

    def test_fields_have_no_other_names(self):
        for name, field in WITH_FIELD:
            made = getattr(errors, name)
            for other in {"place", "index", "count", "word"} - {field}:
                self.assertFalse(hasattr(made(1), other), (name, other))
                with self.assertRaises(TypeError):
                    made(**{other: 1})
            with self.assertRaises(TypeError):
                made()
            with self.assertRaises(TypeError):
                made(1, 2)


if __name__ == "__main__":
    unittest.main()
