"""Some of the language's rules that can be looked up in the files."""

import ast
import builtins
import os
import re
import unittest

PACKAGE = os.path.join(os.path.dirname(os.path.dirname(os.path.abspath(__file__))), "snapshelf")
BARRED = (
    "type|typing|typing_extensions|enum|Enum|IntEnum|StrEnum|Flag|IntFlag|Generic|Protocol|ABC|ABCMeta|namedtuple|"
    "NamedTuple|TypedDict|TYPE_CHECKING|abstractmethod"
)
NO_NAMES = ("register", "mro", "elements", "open", "input", "version_info", "with_traceback", "add_note", "format", "args")
BUILTINS = (
    "len range enumerate zip min max sum abs sorted reversed int str bool bytes list tuple dict set frozenset isinstance ord "
    "repr any all divmod iter next super Exception ValueError TypeError KeyError IndexError LookupError ZeroDivisionError "
    "ArithmeticError OverflowError RuntimeError NotImplementedError AttributeError StopIteration NotImplemented"
).split()


def files():
    """The names and texts of the package's files."""
    told = []
    for name in sorted(os.listdir(PACKAGE)):
        if name != "__pycache__":
            with open(os.path.join(PACKAGE, name), encoding="utf-8") as source:
                told.append((name, source.read()))
    return told


def functions(tree):
    return [node for node in ast.walk(tree) if isinstance(node, ast.FunctionDef)]


def names_bound(tree):
    """Parameters and local or module-level names that are assigned."""
    names = [node.arg for node in ast.walk(tree) if isinstance(node, ast.arg)]
    names += [node.id for node in ast.walk(tree) if isinstance(node, ast.Name) and not isinstance(node.ctx, ast.Load)]
    return names


def names_used(tree):
    """All names that stand anywhere in the code."""
    names = [node.name for node in ast.walk(tree) if isinstance(node, (ast.FunctionDef, ast.ClassDef))]
    names += [node.attr for node in ast.walk(tree) if isinstance(node, ast.Attribute)]
    names += [node.id for node in ast.walk(tree) if isinstance(node, ast.Name)]
    return names + names_bound(tree) + imported(tree)


def imported(tree):
    return [alias.name for node in ast.walk(tree) if isinstance(node, ast.ImportFrom) for alias in node.names]


class FormTest(unittest.TestCase):

    def test_files_and_signs(self):
        self.assertIn("__init__.py", [name for name, text in files()])
        for name, text in files():
            self.assertTrue(re.fullmatch("[a-z0-9_]+[.]py", name), name)
            self.assertTrue(re.fullmatch("[ -~\n]*", text), name)

    def test_sizes(self):
        for name, text in files():
            self.assertLessEqual(len(text.splitlines()), 400, name)
            self.assertLessEqual(max([len(line) for line in text.splitlines()], default=0), 120, name)
            for function in functions(ast.parse(text)):
                self.assertLessEqual(function.end_lineno - function.lineno + 1, 40, (name, function.name))

    def test_words_that_are_not_used(self):
        for name, text in files():
            self.assertIsNone(re.search(r"\b(" + BARRED + r")\b|dataclass|overload|contextmanager", text), name)
            for used in names_used(ast.parse(text)):
                self.assertNotIn(used, NO_NAMES, name)

    def test_imports(self):
        for name, text in files():
            tree = ast.parse(text)
            self.assertFalse([node for node in ast.walk(tree) if isinstance(node, ast.Import)], name)
            for node in ast.walk(tree):
                if isinstance(node, ast.ImportFrom):
                    self.assertTrue(node.module.startswith("snapshelf.") and node.level == 0, name)
                    home = dict(files())[node.module.split(".")[1] + ".py"]
                    for alias in node.names:
                        self.assertTrue(re.search(rf"^(def|class) {alias.name}\b|^{alias.name} = ", home, re.M), alias.name)

    def test_imports_go_one_way(self):
        above = {}
        for name, text in files():
            above[name] = re.findall(r"^from snapshelf[.](\w+) import", text, re.M)
        done = []
        while len(done) < len(above):
            ready = [name for name in above if name not in done and all(one + ".py" in done for one in above[name])]
            self.assertTrue(ready, above)
            done += ready

    def test_names(self):
        for name, text in files():
            tree = ast.parse(text)
            for bound in names_bound(tree):
                self.assertTrue(re.fullmatch("[A-Za-z][A-Za-z0-9_]*", bound), (name, bound))
                self.assertNotIn(bound, dir(builtins), name)
                self.assertNotIn(bound, imported(tree), name)

    def test_builtins(self):
        for name, text in files():
            for node in ast.walk(ast.parse(text)):
                if isinstance(node, ast.Name) and node.id in dir(builtins):
                    self.assertIn(node.id, BUILTINS, name)

    def test_no_name_is_a_method_here_and_an_attribute_there(self):
        methods, attributes = set(), set()
        for name, text in files():
            for node in ast.walk(ast.parse(text)):
                if isinstance(node, ast.ClassDef):
                    methods |= {one.name for one in node.body if isinstance(one, ast.FunctionDef)}
                if isinstance(node, ast.Attribute) and isinstance(node.ctx, ast.Store):
                    attributes.add(node.attr)
        self.assertFalse(methods & attributes)

    def test_statements_that_are_not_used(self):
        for name, text in files():
            for node in ast.walk(ast.parse(text)):
                self.assertNotIsInstance(node, (ast.Global, ast.AsyncFunctionDef, ast.Await, ast.Div), name)
                if isinstance(node, ast.Constant):
                    self.assertNotIsInstance(node.value, (float, complex), name)
                    self.assertFalse(isinstance(node.value, str) and "%" in node.value, name)
                if isinstance(node, ast.Compare) and [one for one in node.ops if isinstance(one, (ast.Is, ast.IsNot))]:
                    self.assertIn(getattr(node.comparators[0], "value", 0), (None, True, False), name)


if __name__ == "__main__":
    unittest.main()
