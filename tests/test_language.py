import ast
import os
import unittest

from language import METHODS, names_in, told_against

FOLDER = os.path.join(os.path.dirname(os.path.dirname(os.path.abspath(__file__))), "askedways")
# Each of these breaks its rule, so that looking through the package isn't looking past it.
BARRED = (
    ("L2", "import os\n"), ("L2", "from os import path\n"), ("L2", "from .names import is_name\n"),
    ("L2", "from askedways.names import *\n"), ("L2", "LIMIT = 1\nfrom askedways.names import is_name\n"),
    ("L3", "print(1)\n"), ("L3", "NAMES = [part for part in (1, 2)]\n"), ("L3", "for at in (1,):\n    pass\n"),
    ("L3", "def f(x):\n    return ACTS[0](x)\n"),
    ("L4", "def f(x, /):\n    return x\n"), ("L4", "def f(x=[]):\n    return x\n"),
    ("L5", "class Box:\n    def __hash__(self):\n        return 1\n"), ("L5", "class Box:\n    for at in (1,):\n        pass\n"),
    ("L6", "def f():\n    global x\n    x = 1\n"), ("L7", "def f(x):\n    return x / 2\n"), ("L7", "HALF = 0.5\n"),
    ("L7", "def f(xs):\n    return all(x for x in xs)\n"), ("L7", "def f(xs):\n    return sorted({*xs, 1})\n"),
    ("L8", "def f(x):\n    return hash(x)\n"), ("L8", "def f(x):\n    return map(f, x)\n"),
    ("L10", "def f():\n" + "    f()\n" * 40), ("L10", "# " + "x" * 119 + "\n"), ("L10", "LIMIT = 1\n" * 401),
    ("L12", "def f(_):\n    return 1\n"), ("L12", "def _f(x):\n    return x\n"),
    ("L14", "# \u00e4\n"), ("L15", "LIMIT = 1\nLIMIT = 2\n"), ("L15", "def f(next):\n    return next\n"),
    ("L15", "from askedways.names import is_name\n\n\ndef f(is_name):\n    return is_name\n"),
    ("L17", "# of this type\n"), ("L17", "def f(x):\n    return x.mro\n"), ("L17", "def f(input):\n    return input\n"),
    ("L18", "class Box:\n    def f(self):\n        return 1\n\n    def f(self):\n        return 2\n"),
    ("L19", "def f():\n    try:\n        f()\n    except Exception:\n        pass\n"),
    ("L19", "def f():\n    raise ValueError\n"), ("L20", "def f(x, y):\n    return x is y\n"),
    ("L23", "def f(xs):\n    rows = zip(xs, xs)\n    return list(rows)\n"), ("L23", "def f(d):\n    return d.items()\n"),
    ("L25", "def f(xs):\n    return xs.append\n"), ("L25", "def f(xs):\n    xs.sort()\n"),
    ("L28", "class Box:\n    def __len__(self):\n        return self.many\n"),
    ("L28", "class Box:\n    def __eq__(self, other):\n        self.many = 1\n        return True\n"),
    ("L28", "class Box:\n    def __eq__(self, other):\n        if other:\n            return True\n"), ("L27", "NAME = 'a%b'\n"),
)


def files():
    for name in sorted(os.listdir(FOLDER)):
        if name != "__pycache__":
            with open(os.path.join(FOLDER, name), encoding="utf-8") as file:
                yield name, file.read()


class Language(unittest.TestCase):
    def test_the_package_keeps_the_rules(self):
        for name, text in files():
            with self.subTest(name=name):
                self.assertEqual(told_against(name, text), [])

    def test_the_folder_holds_nothing_else(self):
        names = [name for name, text in files()]
        self.assertIn("__init__.py", names)
        self.assertLessEqual(len(names), 100)
        for name in names:
            self.assertTrue(name.endswith(".py"))

    def test_imports_name_the_very_file_and_make_no_ring(self):
        trees = {name[:-3]: ast.parse(text) for name, text in files()}
        above = {}
        for name, tree in trees.items():
            above[name] = set()
            for node in tree.body:
                if isinstance(node, ast.ImportFrom):
                    source = node.module.split(".")[1]
                    above[name].add(source)
                    for alias in node.names:
                        self.assertIn(alias.name, defined_in(trees[source]))
        while above:
            free = [name for name in above if not above[name] & set(above)]
            self.assertTrue(free, "imports make a ring")
            for name in free:
                del above[name]

    def test_no_name_is_a_method_and_an_attribute(self):
        methods, assigned, read = set(), set(), set()
        for name, text in files():
            of = names_in(ast.parse(text))
            methods, assigned, read = methods | of[0], assigned | of[1], read | of[2]
        self.assertEqual(methods & assigned, set())
        self.assertEqual(read - assigned - methods - METHODS, set())

    def test_each_import_is_used(self):
        for name, text in files():
            tree = ast.parse(text)
            used = {node.id for node in ast.walk(tree) if isinstance(node, ast.Name)}
            imported = {part.name for node in tree.body if isinstance(node, ast.ImportFrom) for part in node.names}
            self.assertEqual(imported - used, set(), name)

    def test_what_is_barred_is_found(self):
        for rule, text in BARRED:
            with self.subTest(text=text[:60]):
                self.assertIn(rule, [found for found, line in told_against("some.py", text)])
        self.assertIn(("L14", 0), told_against("Some.py", ""))

    def test_what_is_let_is_let(self):
        self.assertEqual(told_against("some.py", '"""Words."""\n\nLIMIT = (1, -2)\n\n\ndef f(x):\n    return [x]\n'), [])


def defined_in(tree):
    names = [node.name for node in tree.body if isinstance(node, (ast.FunctionDef, ast.ClassDef))]
    return names + [node.targets[0].id for node in tree.body if isinstance(node, ast.Assign)]


if __name__ == "__main__":
    unittest.main()
