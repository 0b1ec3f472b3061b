import ast
import importlib
import inspect
import os
import unittest

import mendedruns

FOLDER = os.path.dirname(os.path.abspath(mendedruns.__file__))
RUN = "(program, state, *, arguments=None)"
MEND = "(program, old, state, *, arguments=None)"
FUNCTIONS = {
    "values": {
        "is_value": "(value)", "is_key": "(value)", "is_name": "(value)", "is_state": "(value)", "are_equal": "(one, other)",
    },
    "expressions": {"evaluate": "(expression, variables)", "names_in": "(expression)"},
    "programs": {"check_program": "(program)", "places": "(program)", "statement_at": "(program, place)"},
    "running": {"run": RUN, "steps_of": RUN},
    "mending": {"mend": MEND, "count_done": MEND, "apply_effect": "(state, trace)"},
    "papers": {"paper": MEND, "first_wrong": "(program, old, state, lines, *, arguments=None)"},
    "lineage": {
        "lineage": "(program, state, place, *, arguments=None)", "resting_places": "(program, state, key, *, arguments=None)",
    },
    "desks": {"preview": "(desk, names)"},
    "certificates": {"certificate": "(desk)", "first_wrong_commit": "(state, value, *, constraints=())"},
    "explaining": {"reasons": "(desk, key)", "first_wrong_reason": "(desk, key, value)"},
    "commuting": {
        "serial_result": "(state, *runs)", "commute": "(state, first, second)", "are_independent": "(one, other)",
        "order_result": "(state, runs, order)",
    },
    "history": {
        "trace_at": "(store, program, moment, *, arguments=None)", "changing_moments": "(store, program, *, arguments=None)",
        "first_change": "(store, program, old, *, arguments=None)",
    },
    "orders": {"total_done": "(desk, names)", "best_order": "(desk)"},
    "logs": {"replay": "(state, entries)"},
    "journals": {"check_number": "(text)", "journal": "(store)", "recover": "(text)"},
    "texts": {
        "format_value": "(value)", "format_program": "(program)", "parse_value": "(text)", "parse_program": "(text)",
    },
}
NAMED = "(self, name)"
BEGIN = "(self, name, program, *, arguments=None)"
CLASSES = {
    "running": {"Trace": {
        "steps": None, "ending": None, "effect": None, "reads": None, "prefixes": None, "touched": None,
        "step": "(self, place)", "first": "(self, count)", "__contains__": 1, "__eq__": 1, "__len__": 1, "__repr__": 1,
    }},
    "mending": {"Mended": {
        "__init__": "(self, trace, marks)", "trace": None, "kept": None, "done": None, "marks": None, "__eq__": 1,
    }},
    "stores": {"Store": {
        "__init__": "(self, state)", "moment": None, "kept": None, "now": None, "commit": "(self, trace)",
        "drop": "(self, moment)", "changed": "(self, key)", "__getitem__": 1, "__contains__": 1, "__eq__": 1, "__len__": 1,
    }},
    "desks": {"Desk": {
        "__init__": "(self, state, *, constraints=())", "begin": BEGIN, "advance": "(self, name, count=1)", "refresh": NAMED,
        "commit": NAMED, "commit_all": "(self, names)", "abort": NAMED, "active": None, "ended": None, "moment": None,
        "state": "(self, moment=None)", "trace_of": NAMED, "begun": NAMED, "done_by": NAMED, "committed": NAMED,
        "recorded": NAMED, "watch": BEGIN, "unwatch": NAMED, "views": None, "tidy": "(self)", "trial": "(self)",
        "copy": "(self)", "__eq__": 1, "__len__": 1,
    }},
    "logs": {"Log": {
        "__init__": "(self, state)", "perform": "(self, entry)", "desk": "(self)", "entries": None, "start": None,
        "undo": "(self)", "__eq__": 1, "__len__": 1,
    }},
    "console": {"Console": {"__init__": "(self)", "execute": "(self, line)", "__len__": 1}},
}


class InterfaceTest(unittest.TestCase):
    def test_functions(self):
        for file, functions in FUNCTIONS.items():
            module = importlib.import_module("mendedruns." + file)
            for name, signature in functions.items():
                function = getattr(module, name)
                self.assertTrue(inspect.isfunction(function), name)
                self.assertEqual(function.__module__, "mendedruns." + file)
                self.assertEqual(str(inspect.signature(function)), signature, name)

    def test_classes(self):
        for file, classes in CLASSES.items():
            module = importlib.import_module("mendedruns." + file)
            for name, methods in classes.items():
                held = getattr(module, name)
                self.assertEqual((inspect.isclass(held), held.__module__), (True, "mendedruns." + file))
                for method, signature in methods.items():
                    self.check_method(held, method, signature)

    def check_method(self, held, method, signature):
        """Check a method that stands in a class itself; None is the signature of a property, 1 that of any other."""
        found = vars(held)[method]
        self.assertEqual(isinstance(found, property), signature is None, method)
        if isinstance(signature, str):
            self.assertEqual(str(inspect.signature(found)), signature, method)

    def test_defined_in_the_file(self):
        for file in FUNCTIONS.keys() | CLASSES.keys():
            with open(os.path.join(FOLDER, file + ".py"), encoding="utf-8") as opened:
                tree = ast.parse(opened.read())
            defined = [node.name for node in tree.body if isinstance(node, (ast.FunctionDef, ast.ClassDef))]
            for name in list(FUNCTIONS.get(file, {})) + list(CLASSES.get(file, {})):
                self.assertTrue(name in defined, (file, name))


if __name__ == "__main__":
    unittest.main()
