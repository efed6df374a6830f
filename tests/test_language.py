"""The package's own files keep to their language (LANGUAGE.md, L1 to L28)."""

import ast
import os
import unittest

from language import FILE_NAMES, OTHER_FILES, PYTHONS_OWN, faults

TOP = os.path.dirname(os.path.dirname(os.path.abspath(__file__)))

# Each with the rule that it breaks.
WRONG = (
    ("L2", "import asitruns"),
    ("L2", "from asitruns.errors import *"),
    ("L2", "from .errors import BadRow"),
    ("L3", "x = len('a')"),
    ("L3", "print_it(1)"),
    ("L4", "def f(*rest):\n    return rest"),
    ("L5", "class A:\n    x = 1"),
    ("L6", "def f():\n    x = y = 1"),
    ("L6", "def f(x):\n    assert x"),
    ("L6", "def f(xs):\n    for x in xs:\n        pass\n    else:\n        pass"),
    ("L7", "def f(x):\n    return x / 2"),
    ("L7", "def f(xs):\n    return any(x for x in xs)"),
    ("L7", "def f(x):\n    return f'{x + 1}'"),
    ("L8", "def f(xs):\n    return map(f, xs)"),
    ("L10", "x = '" + "a" * 120 + "'"),
    ("L10", "def f(x):\n" + "    x = 1\n" * 40),
    ("L12", "def f():\n    _x = 1"),
    ("L14", "# \u00e4"),
    ("L15", "x = 1\nx = 2"),
    ("L15", "def f(hash):\n    return 1"),
    ("L17", "# this type"),
    ("L19", "def f():\n    try:\n        g()\n    except Exception:\n        pass"),
    ("L20", "def f(x):\n    return x is 5"),
    ("L21", "def f(x: int):\n    return x"),
    ("L22", "def f(xs):\n    return sorted(xs, key=len, other=1)"),
    ("L23", "def f():\n    x = range(3)"),
    ("L25", "def f(x):\n    x.sort()"),
    ("L26", "class A:\n    def __init__(self):\n        self.items = 1"),
    ("L27", "x = 'a %'"),
    ("L27", "def f(n):\n    return 2 ** n"),
)


def package_files():
    """The paths of all that lies in the package, from the top of the repository on."""
    found = []
    for folder, folders, names in os.walk(os.path.join(TOP, "asitruns")):
        folders[:] = sorted([name for name in folders if name != "__pycache__"])
        found += [os.path.relpath(os.path.join(folder, name), TOP) for name in sorted(names)]
    return found


def source_of(path):
    with open(os.path.join(TOP, path), encoding="ascii") as file:
        return file.read()


def trees():
    """The tree of each file, by its module name."""
    return {path[:-3].replace(os.sep, ".").replace(".__init__", ""): ast.parse(source_of(path))
            for path in package_files()}


def defined_in(tree):
    names = set()
    for node in tree.body:
        if isinstance(node, (ast.FunctionDef, ast.ClassDef)):
            names.add(node.name)
        elif isinstance(node, ast.Assign):
            names.add(node.targets[0].id)
    return names


def imports_of(tree):
    return [node for node in tree.body if isinstance(node, ast.ImportFrom)]


class Language(unittest.TestCase):

    def test_files(self):
        files = package_files()
        self.assertIn(os.path.join("asitruns", "errors.py"), files)
        for path in files:
            with self.subTest(path=path):
                name = os.path.basename(path)
                self.assertTrue(FILE_NAMES.fullmatch(name))
                self.assertNotIn(name[:-3], OTHER_FILES | PYTHONS_OWN)
                self.assertFalse(name.startswith("test_"))
                self.assertIn(os.path.join(os.path.dirname(path), "__init__.py"), files)

    def test_each_file_keeps_to_it(self):
        methods = set()
        for tree in trees().values():
            for node in tree.body:
                if isinstance(node, ast.ClassDef):
                    methods.update(part.name for part in node.body if isinstance(part, ast.FunctionDef))
        for path in package_files():
            with self.subTest(path=path):
                self.assertEqual(faults(source_of(path), methods), [])

    def test_names_are_imported_from_the_file_that_defines_them(self):
        known = trees()
        for module, tree in known.items():
            for node in imports_of(tree):
                with self.subTest(module=module, line=node.lineno):
                    self.assertIn(node.module, known)
                    self.assertLessEqual({name.name for name in node.names}, defined_in(known[node.module]))

    def test_no_two_files_draw_from_one_another(self):
        drawn = {module: {node.module for node in imports_of(tree)} for module, tree in trees().items()}
        while drawn:
            free = [module for module in drawn if not drawn[module] & set(drawn)]
            self.assertNotEqual(free, [], "a ring of imports")
            for module in free:
                drawn.pop(module)

    def test_what_is_wrong_is_found(self):
        for rule, source in WRONG:
            with self.subTest(rule=rule, source=source[:40]):
                self.assertIn(rule, [fault[0] for fault in faults(source)])

    def test_a_name_that_is_a_method_and_a_value_is_found(self):
        source = "class A:\n    def __init__(self):\n        self.a = 1\n        self.b = 1"
        self.assertEqual(faults(source, {"b"}), [("L18", 4)])

    def test_what_is_right_is_let_by(self):
        source = ('"""A file."""\n\nWORDS = ("a", "b")\n\n\ndef f(xs):\n    """Why."""\n'
                  '    return [x for k, x in enumerate(xs, start=1) if x is not None]\n')
        self.assertEqual(faults(source), [])


if __name__ == "__main__":
    unittest.main()
