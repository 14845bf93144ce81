"""The rules that ../shared/LANGUAGE.md sets for the files of the package, as far as their code shows them.

Numbers in the messages are those of the rules. Only what the package uses is
looked at closely: a construct that is not listed here is refused, and is to be
listed once a file needs it and the rules let it.
"""

import ast
import builtins
import os
import re
import unittest

import fastestalong

FOLDER = os.path.dirname(fastestalong.__file__)

NODES = {
    "Module", "Expr", "Constant", "ImportFrom", "alias", "FunctionDef", "arguments", "arg", "ClassDef", "Return",
    "Assign", "AugAssign", "If", "For", "While", "Break", "Continue", "Pass", "Raise", "Name", "Attribute",
    "Subscript", "Slice", "Starred", "Load", "Store", "Call", "keyword", "Tuple", "List", "Dict", "IfExp", "BoolOp",
    "And", "Or", "UnaryOp", "USub", "Not", "BinOp", "Add", "Sub", "Mult", "FloorDiv", "Mod", "Pow", "LShift", "RShift",
    "Compare", "Eq", "NotEq", "Lt", "LtE", "Gt", "GtE", "In", "NotIn", "Is", "IsNot", "ListComp", "DictComp",
    "GeneratorExp", "comprehension", "JoinedStr", "FormattedValue", "Try", "ExceptHandler",
}
LIBRARY = {"math": {"gcd", "lcm", "isqrt"}, "heapq": {"heappush", "heappop", "heapify"}}
BUILTINS = set((
    "len range enumerate zip min max sum abs sorted reversed int str bool list tuple dict isinstance ord repr any all "
    "divmod type ValueError KeyError IndexError"
).split())
METHODS = set((
    "append clear copy count endswith extend find get index insert isalnum isalpha isdigit islower isspace isupper "
    "items join keys ljust lower lstrip partition pop remove replace reverse rfind rjust rpartition rsplit rstrip "
    "setdefault split splitlines startswith strip update upper values zfill bit_length"
).split())
ITERATING = ("list", "tuple", "dict", "sorted", "sum", "any", "all", "enumerate", "zip", "min", "max")
BARRED = set((
    "register mro elements open input law version_info with_traceback add_note typing enum Enum namedtuple dataclass "
    "compile dir eval exec exit gc getattr globals hasattr help id importlib locals os quit setattr super vars sys"
).split())


def files():
    return sorted(name for name in os.listdir(FOLDER) if name != "__pycache__")


def source(name):
    with open(os.path.join(FOLDER, name), encoding="utf-8", newline="") as told:
        return told.read()


def trees():
    return {name: ast.parse(source(name)) for name in files()}


def functions(tree):
    return [node for node in ast.walk(tree) if isinstance(node, ast.FunctionDef)]


def imports(tree):
    return [node for node in tree.body if isinstance(node, ast.ImportFrom)]


def bound(tree):
    """All names that a file gives a meaning of its own, with those of its arguments and variables."""
    for node in ast.walk(tree):
        if isinstance(node, (ast.FunctionDef, ast.ClassDef)):
            yield node.name
        elif isinstance(node, ast.arg):
            yield node.arg
        elif isinstance(node, ast.alias):
            yield node.name
        elif isinstance(node, ast.Name) and isinstance(node.ctx, ast.Store):
            yield node.id


def own_methods():
    """The names of all methods that the package's classes define, but for those of double underscores."""
    told = set()
    for tree in trees().values():
        for node in tree.body:
            if isinstance(node, ast.ClassDef):
                told |= {part.name for part in node.body if isinstance(part, ast.FunctionDef)}
    return told - {"__init__"}


class TestFiles(unittest.TestCase):
    def test_files(self):
        for name in files():
            self.assertRegex(name, r"\A(__init__|[a-z][a-z0-9_]*)\.py\Z", "L1")

    def test_lines_and_signs(self):
        for name in files():
            text = source(name)
            self.assertRegex(text, r"\A[ -~\n]*\Z", f"L14 {name}")
            lines = text.split("\n")
            self.assertLess(len(lines), 400, f"L10 {name}")
            for line in lines:
                self.assertLessEqual(len(line), 120, f"L10 {name}")
                self.assertNotIn("_wall", line, f"L12 {name}")

    def test_sizes_of_functions(self):
        for name, tree in trees().items():
            for told in functions(tree):
                self.assertLessEqual(told.end_lineno - told.lineno, 39, f"L10 {name} {told.name}")


class TestImports(unittest.TestCase):
    def test_they_name_what_their_file_defines(self):
        told = trees()
        for name, tree in told.items():
            for node in imports(tree):
                self.assertEqual(node.level, 0, f"L2 {name}")
                self.assertEqual([alias.asname for alias in node.names], [None] * len(node.names), f"L2 {name}")
                names = {alias.name for alias in node.names}
                if node.module in LIBRARY:
                    self.assertLessEqual(names, LIBRARY[node.module], f"L2 {name}")
                    continue
                package, _, file = node.module.partition(".")
                self.assertEqual(package, "fastestalong", f"L2 {name}")
                body = told[f"{file}.py"].body
                defined = {part.name for part in body if isinstance(part, (ast.FunctionDef, ast.ClassDef))}
                for part in body:
                    if isinstance(part, ast.Assign):
                        defined.add(part.targets[0].id)
                self.assertLessEqual(names, defined, f"L16 {name}")

    def test_no_circles(self):
        told = {
            name[:-3]: [node.module.partition(".")[2] for node in imports(tree) if "." in node.module]
            for name, tree in trees().items()
        }
        while told:
            free = [name for name, needed in told.items() if not set(needed) & set(told)]
            self.assertTrue(free, f"L16 {sorted(told)}")
            told = {name: needed for name, needed in told.items() if name not in free}

    def test_each_is_used(self):
        for name, tree in trees().items():
            used = {node.id for node in ast.walk(tree) if isinstance(node, ast.Name)}
            for node in imports(tree):
                for alias in node.names:
                    self.assertIn(alias.name, used, name)


class TestCode(unittest.TestCase):
    def test_constructs(self):
        for name, tree in trees().items():
            for node in ast.walk(tree):
                self.assertIn(node.__class__.__name__, NODES, f"L6, L7 {name} {getattr(node, 'lineno', '')}")
                if isinstance(node, ast.Constant):
                    self.assertIn(node.value.__class__, (int, str, bool, None.__class__), f"L7 {name}")
                if isinstance(node, ast.FunctionDef):
                    decorators = [decorator.id for decorator in node.decorator_list]
                    self.assertIn(decorators, ([], ["property"]), f"L4 {name}")
                    self.assertIsNone(node.returns, f"L21 {name}")
                if isinstance(node, ast.arg):
                    self.assertIsNone(node.annotation, f"L21 {name}")

    def test_module_level(self):
        for name, tree in trees().items():
            for node in tree.body:
                self.assertIsInstance(
                    node, (ast.Expr, ast.ImportFrom, ast.FunctionDef, ast.ClassDef, ast.Assign), f"L3 {name}",
                )
                if isinstance(node, ast.Expr):
                    self.assertIs(node, tree.body[0], f"L3 {name}")
                    self.assertIsInstance(node.value, ast.Constant, f"L3 {name}")
                if isinstance(node, ast.Assign):
                    self.assertIsInstance(node.targets[0], ast.Name, f"L3 {name}")
                    self.check_plain(node.value, tree)

    def check_plain(self, value, tree):
        """A plain value, or a dict of the file's own functions above it."""
        if not isinstance(value, ast.Dict) or not all(isinstance(part, ast.Name) for part in value.values):
            ast.literal_eval(value)
            return
        above = [told.name for told in tree.body if isinstance(told, ast.FunctionDef) and told.lineno < value.lineno]
        for key, part in zip(value.keys, value.values):
            ast.literal_eval(key)
            self.assertIn(part.id, above, "L3")

    def test_exponents(self):
        for name, tree in trees().items():
            for node in ast.walk(tree):
                if isinstance(node, ast.BinOp) and isinstance(node.op, ast.Pow):
                    self.assertIn(ast.literal_eval(node.right), range(65), f"L27 {name}")

    def test_names(self):
        meant = set(dir(builtins)) | BARRED
        for name, tree in trees().items():
            for word in bound(tree):
                self.assertNotIn(word, meant - {"__init__"}, f"L15, L17 {name}")
                self.assertRegex(word, r"\A(_|__init__|_?[a-zA-Z][a-zA-Z0-9_]*)\Z", f"L12 {name}")
            for node in ast.walk(tree):
                if isinstance(node, ast.Name) and isinstance(node.ctx, ast.Load):
                    self.assertNotEqual(node.id, "_", f"L12 {name}")
                    if node.id in dir(builtins):
                        self.assertIn(node.id, BUILTINS | {"property"}, f"L8 {name}")

    def test_no_variable_has_the_name_of_an_import_or_class(self):
        for name, tree in trees().items():
            kept = {alias.name for node in imports(tree) for alias in node.names}
            kept |= {node.name for node in tree.body if isinstance(node, ast.ClassDef)}
            for told in functions(tree):
                for node in ast.walk(told):
                    if isinstance(node, ast.arg):
                        self.assertNotIn(node.arg, kept, f"L15 {name}")
                    if isinstance(node, ast.Name) and isinstance(node.ctx, ast.Store):
                        self.assertNotIn(node.id, kept, f"L15 {name}")

    def test_methods(self):
        own = own_methods()
        self.assertEqual(own & METHODS, set(), "L25")
        for name, tree in trees().items():
            for node in ast.walk(tree):
                if isinstance(node, ast.Call) and isinstance(node.func, ast.Attribute):
                    self.assertIn(node.func.attr, METHODS | own, f"L25 {name}")
                    self.assertEqual(node.keywords, [], f"L25 {name}")

    def test_attributes(self):
        own = own_methods()
        for name, tree in trees().items():
            for node in ast.walk(tree):
                if isinstance(node, ast.Attribute) and isinstance(node.ctx, ast.Store):
                    self.assertEqual(node.value.id, "self", f"L18 {name}")
                    self.assertNotIn(node.attr, own | BARRED, f"L17, L18 {name}")

    def test_properties(self):
        stored = set()
        for tree in trees().values():
            stored |= {node.attr for node in ast.walk(tree)
                       if isinstance(node, ast.Attribute) and not isinstance(node.ctx, ast.Load)}
        for name, tree in trees().items():
            for told in functions(tree):
                if told.decorator_list:
                    self.assertNotIn(told.name, stored | METHODS, f"L5 {name}")
                    self.assertEqual([arg.arg for arg in told.args.args], ["self"], f"L5 {name}")
                    self.assertEqual([node.__class__.__name__ for node in told.body], ["Expr", "Return"], f"L5 {name}")

    def test_handlers(self):
        errors = {node.name for node in trees()["errors.py"].body if isinstance(node, ast.ClassDef)}
        for name, tree in trees().items():
            for node in ast.walk(tree):
                if isinstance(node, ast.Try):
                    self.assertEqual(node.finalbody + node.orelse, [], f"L6 {name}")
                if isinstance(node, ast.ExceptHandler):
                    self.assertIn(node.type.id, errors, f"L19 {name}")

    def test_ranges_and_views_are_iterated_at_once(self):
        for name, tree in trees().items():
            for node in ast.walk(tree):
                for part in ast.iter_child_nodes(node):
                    if not isinstance(part, ast.Call):
                        continue
                    called = getattr(part.func, "id", getattr(part.func, "attr", None))
                    if called not in ("range", "zip", "enumerate", "reversed", "items", "keys", "values"):
                        continue
                    if isinstance(node, ast.Call):
                        self.assertIn(node.func.id, ITERATING, f"L23 {name} {node.lineno}")
                    else:
                        self.assertIsInstance(node, (ast.For, ast.comprehension), f"L23 {name} {part.lineno}")

    def test_is(self):
        for name, tree in trees().items():
            for node in ast.walk(tree):
                if not isinstance(node, ast.Compare):
                    continue
                if isinstance(node.ops[0], (ast.Is, ast.IsNot)):
                    side, left = node.comparators[0], node.left
                    of_kind = isinstance(left, ast.Call) and left.func.id == "type" and isinstance(side, ast.Name)
                    self.assertTrue(of_kind or isinstance(side, ast.Constant), f"L20 {name} {node.lineno}")

    def test_strings(self):
        for name, tree in trees().items():
            docs = {node.body[0].value for node in ast.walk(tree)
                    if isinstance(node, (ast.Module, ast.FunctionDef, ast.ClassDef))
                    and node.body and isinstance(node.body[0], ast.Expr)}
            for node in ast.walk(tree):
                if isinstance(node, ast.Constant) and isinstance(node.value, str) and node not in docs:
                    self.assertNotIn("%", node.value, f"L27 {name}")
                    self.assertFalse(re.search(r"\b(type|__\w*)\b", node.value), f"L17, L27 {name}")

    def test_errors_are_raised_by_their_names(self):
        for name, tree in trees().items():
            for node in ast.walk(tree):
                if isinstance(node, ast.Raise):
                    self.assertIsInstance(node.exc, ast.Call, f"L19 {name}")
                    self.assertRegex(node.exc.func.id, r"\A[A-Z]", f"L19 {name}")
                    self.assertEqual(node.exc.keywords, [], f"L19 {name}")


if __name__ == "__main__":
    unittest.main()
