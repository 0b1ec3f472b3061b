import ast
import os
import re
import unittest

import mendedruns
from tests.language import bound_names, breaches, breaches_of_names, own_methods

FOLDER = os.path.dirname(os.path.abspath(mendedruns.__file__))
BREACHES = {
    "L2": ["from os import path\n", "from .values import is_value\n", "from mendedruns.values import *\n"],
    "L3": ["len([1])\n", "A, B = 0, 1\n", "A = len([1])\n", "if 1:\n    A = 1\n"],
    "L4": ["def f(a, /):\n    return a\n", "@g\ndef f():\n    return 1\n"],
    "L5": ["def f(a):\n    return any(b for b in a)\n", "def f(a):\n    return sorted(b for b in a)\n"],
    "L6": ["import os\n", "def f():\n    global a\n"],
    "L7": ["def f(a):\n    return a / 2\n", "A = 1.5\n"],
    "L8": ["def f(a):\n    return hash(a)\n", "def f(a):\n    return a.__class__\n", "def f(a):\n    return type(a)\n"],
    "L10": ["A = 1\n" * 400, "def f():\n" + "    pass\n" * 40, "A = " + "1" * 120 + "\n"],
    "L12": ["def f(_):\n    pass\n", "def hash():\n    pass\n", "A_ = 1\n_a = 1\n", "def f(open):\n    pass\n"],
    "L14": ["A = '\u00e9'\n", "def f():\n\tpass\n"],
    "L15": ["A = 1\nA = 2\n", "from mendedruns.values import A\n\n\ndef A():\n    pass\n",
            "from mendedruns.values import a\n\n\ndef f(a):\n    return a\n",
            "def f():\n    A = 1\n\n\nclass A:\n    pass\n", "A = ([1],)\n", "A = {1: {}}\n"],
    "L17": ["# the type of it\n", "A = 'enum'\n"],
    "L19": ["def f():\n    try:\n        pass\n    except Exception:\n        pass\n",
            "def f(a):\n    raise a\n", "def f(a):\n    raise a.b()\n", "def f():\n    raise KeyError\n"],
    "L20": ["def f(a, b):\n    return a is b\n"],
    "L23": ["def f(a):\n    b = a.items()\n", "def f(a):\n    return zip(a, a)\n", "def f(a):\n    return [range(a)]\n"],
    "L24": ["def f(a):\n    return set(a)\n", "def f(a):\n    for b in {1, a}:\n        pass\n",
            "def f(a):\n    return g({b for b in a})\n"],
    "L25": ["def f(a):\n    return a.encode()\n", "def f(a):\n    a.sort()\n"],
    "L27": ["A = '100%'\n", "def f(a):\n    return 2 ** a\n"],
}


def sources():
    """Return a dict from the names of the files of the package to their texts."""
    names = [name for name in sorted(os.listdir(FOLDER)) if name != "__pycache__"]
    found = {}
    for name in names:
        with open(os.path.join(FOLDER, name), encoding="utf-8") as file:
            found[name] = file.read()
    return found


def imports_of(tree):
    """Return tuples of a file and a name for all that a file imports."""
    found = []
    for node in tree.body:
        if isinstance(node, ast.ImportFrom):
            found += [(node.module.split(".")[1] + ".py", alias.name) for alias in node.names]
    return found


class LanguageTest(unittest.TestCase):
    def test_files_keep_the_rules(self):
        own = set(method for source in sources().values() for method in own_methods(source))
        for name, source in sources().items():
            self.assertEqual(breaches(source, own), [], name)

    def test_methods_properties_and_attributes_have_unlike_names(self):
        self.assertEqual(breaches_of_names(sources().values()), [])
        for wrong in ("    def a(self):\n        self.a = 1\n", "    @property\n    def a(self):\n        self.a = 1\n",
                      "    @property\n    def items(self):\n        return 1\n"):
            self.assertEqual(len(breaches_of_names(["class B:\n" + wrong])), 1)
        self.assertEqual(len(breaches_of_names(["class B:\n    def a(self):\n        pass\n",
                                                "class C:\n    def b(self):\n        self.a = 1\n"])), 1)

    def test_names_of_files(self):
        self.assertTrue("__init__.py" in sources())
        for name in sources():
            self.assertTrue(re.fullmatch("[a-z0-9_]+[.]py", name), name)

    def test_imports_name_the_file_that_defines_the_name(self):
        trees = {name: ast.parse(source) for name, source in sources().items()}
        for file, tree in trees.items():
            for module, name in imports_of(tree):
                own = [node for node in trees[module].body if not isinstance(node, (ast.ImportFrom, ast.Expr))]
                self.assertTrue(name in [bound for node in own for bound in bound_names(node)], (file, name))

    def test_no_files_import_each_other(self):
        trees = {name: ast.parse(source) for name, source in sources().items()}
        left = {name: set(module for module, part in imports_of(tree)) for name, tree in trees.items()}
        while left:
            ready = [name for name in left if not left[name] & set(left)]
            self.assertNotEqual(ready, [], sorted(left))
            left = {name: left[name] for name in left if name not in ready}

    def test_breaches_are_found(self):
        for rule, wrong_ones in BREACHES.items():
            for source in wrong_ones:
                found = [told.split(",")[0] for told in breaches(source)]
                self.assertTrue(rule in found, (rule, source, found))


if __name__ == "__main__":
    unittest.main()
