"""The interface: each name in its file, with its arguments in their sequence."""

import ast
import importlib
import inspect
import os
import unittest

INTERFACE = {
    "errors": {
        "CourseError": None, "InvalidFraction": None, "InvalidWay": None, "InvalidIndex": None,
        "InvalidCount": None, "InvalidPart": None, "Refused": None, "InvalidProgram": "place",
        "InvalidLimits": "index", "InvalidCourse": "index", "InvalidText": "index", "InvalidCommand": "index",
        "TooMany": "count", "Unknown": "word", "Twice": "word",
    },
    "fractions": {
        "is_fraction": "value", "fraction": "top bottom", "plus": "one other", "minus": "one other",
        "times": "one other", "over": "one other", "below": "one other", "sum_of": "numbers",
        "root": "number digits", "fraction_text": "number", "fraction_told": "text",
    },
    "programs": {
        "program_fault": "value", "is_program": "value", "limits_fault": "program value",
        "is_limits": "program value", "axis_count": "program", "path": "program", "moved": "program shift",
        "backwards": "program", "grown": "program factor", "grown_limits": "program limits factor",
        "led": "program order", "led_limits": "program limits order",
    },
    "moves": {
        "lengths": "program", "directions": "program", "ways": "program", "whole": "program",
        "move_at": "program way", "point_at": "program way", "caps": "program limits",
        "pulls": "program limits", "turn_caps": "program limits",
    },
    "courses": {
        "greatest": "program limits", "judged": "program limits course", "square_at": "course way",
        "is_below": "course other_course", "course_fault": "value", "is_course": "value",
    },
    "leasts": {"sums": "program limits", "bar": "program limits", "can_keep": "program limits"},
    "ahead": {"ahead": "program limits known", "slower": "program limits known", "enough": "program limits"},
    "times": {
        "exact_time": "course low high", "told_time": "course low high digits", "sooner": "course other_course",
        "is_by": "course way moment", "pace": "course way digits",
    },
    "pulses": {
        "pulses": "program sizes", "counts_at": "program sizes way", "gaps": "program sizes",
        "pulses_fault": "program sizes value",
    },
    "runs": {"Run": "program limits", "run_again": "program limits journal way"},
    "corners": {
        "corners": "program", "off": "program corner amount", "cut": "program corner amount",
        "room": "program corner tolerance", "rounded": "program tolerance",
    },
    "alike": {"plain": "program", "alike": "program other_program"},
    "binding": {"binding": "program limits", "gains": "program limits axis"},
    "texts": {
        "program_told": "text", "program_text": "program", "shortest": "program", "limits_told": "text",
        "limits_text": "limits", "course_told": "text", "course_text": "course",
    },
    "drawn": {
        "profile": "course wide tall", "ribbon": "program limits course wide", "clock": "course wide",
        "trail": "program wide tall",
    },
    "console": {"Console": ""},
}

METHODS = {
    ("runs", "Run"): {"go": "way", "feed": "factor", "hold": "", "go_on": "", "done": "", "rest": "", "stand": ""},
    ("console", "Console"): {"execute": "command"},
}
PROPERTIES = ("program", "limits", "way", "square", "factor", "held", "journal")


class TestInterface(unittest.TestCase):
    def test_names_and_arguments(self):
        for file, names in INTERFACE.items():
            module = importlib.import_module(f"fastestalong.{file}")
            for name, arguments in names.items():
                told = getattr(module, name)
                self.assertEqual(told.__module__, module.__name__, name)
                if arguments is None:
                    continue
                parameters = inspect.signature(told).parameters.values()
                self.assertEqual([parameter.name for parameter in parameters], arguments.split(), name)
                for parameter in parameters:
                    self.assertEqual(parameter.kind, inspect.Parameter.POSITIONAL_OR_KEYWORD, name)
                    self.assertIs(parameter.default, inspect.Parameter.empty, name)

    def test_methods(self):
        for (file, name), methods in METHODS.items():
            told = getattr(importlib.import_module(f"fastestalong.{file}"), name)
            for method, arguments in methods.items():
                parameters = inspect.signature(vars(told)[method]).parameters.values()
                self.assertEqual([parameter.name for parameter in parameters], ["self"] + arguments.split(), method)
                for parameter in parameters:
                    self.assertEqual(parameter.kind, inspect.Parameter.POSITIONAL_OR_KEYWORD, method)
                    self.assertIs(parameter.default, inspect.Parameter.empty, method)

    def test_properties(self):
        told = vars(importlib.import_module("fastestalong.runs").Run)
        for name in PROPERTIES:
            self.assertIsInstance(told[name], property)
            self.assertIsNone(told[name].fset)

    def test_each_is_defined_in_its_file(self):
        for file, names in INTERFACE.items():
            module = importlib.import_module(f"fastestalong.{file}")
            with open(module.__file__, encoding="utf-8") as source:
                body = ast.parse(source.read()).body
            defined = [part.name for part in body if isinstance(part, (ast.FunctionDef, ast.ClassDef))]
            for name in names:
                self.assertEqual(defined.count(name), 1, name)

    def test_the_package_is_one_folder_of_python_files(self):
        folder = os.path.dirname(importlib.import_module("fastestalong").__file__)
        self.assertTrue(os.path.exists(os.path.join(folder, "__init__.py")))
        for name in os.listdir(folder):
            self.assertTrue(name.endswith(".py") or name == "__pycache__", name)


if __name__ == "__main__":
    unittest.main()
