"""Finds breaches of those rules of LANGUAGE.md that can be seen in one file at a time."""

import ast
import builtins
import re

MODULE_STATEMENTS = (ast.ImportFrom, ast.FunctionDef, ast.ClassDef, ast.Assign, ast.AnnAssign)
BARRED_STATEMENTS = (ast.Global, ast.AsyncFunctionDef, ast.AsyncFor, ast.AsyncWith, ast.Await, ast.Import)
BUILTINS = set("""
    len range enumerate zip min max sum abs sorted reversed int str bool bytes list tuple dict set frozenset isinstance
    ord repr any all divmod iter next Exception ValueError TypeError KeyError IndexError LookupError ZeroDivisionError
    ArithmeticError OverflowError RuntimeError NotImplementedError AttributeError StopIteration NotImplemented super
    property staticmethod classmethod
""".split())
CAUGHT_OF_PYTHON = {"KeyError", "ZeroDivisionError", "StopIteration", "ValueError", "LookupError", "IndexError"}
DUNDER_METHODS = set("__%s__" % word for word in """
    init eq repr str len enter exit call iter lt le gt ge ne add sub mul floordiv mod pow and or xor lshift rshift
    radd rsub rmul rfloordiv rmod rand ror rxor rlshift rrshift iadd isub imul ifloordiv imod ipow iand ior ixor
    ilshift irshift neg pos invert abs bool contains getitem setitem
""".split())
BUILTIN_METHODS = set("""
    append clear copy count endswith extend find get index insert isalnum isalpha isdigit islower isspace isupper items
    join keys ljust lower lstrip partition pop remove replace reverse rfind rjust rpartition rsplit rstrip setdefault
    split splitlines startswith strip update upper values zfill bit_length title capitalize swapcase casefold center
    expandtabs removeprefix removesuffix rindex isascii isdecimal isnumeric istitle isidentifier isprintable translate
    add discard sort
""".split())
BARRED_NAMES = set("""
    register mro elements open input law version_info with_traceback add_note attrgetter breakpoint builtins compile
    copyright credits delattr dir eval exec exit gc getattr globals hasattr help id importlib license locals
    methodcaller os quit setattr type vars sys
""".split())
BARRED_WORDS = re.compile(
    r"\b(type|typing|typing_extensions|enum|Enum|IntEnum|StrEnum|Flag|IntFlag|Generic|Protocol|ABC|ABCMeta|namedtuple"
    r"|NamedTuple|TypedDict|TYPE_CHECKING|abstractmethod)\b|dataclass|overload|contextmanager")


SUMMING = ("sum", "min", "max", "sorted", "any", "all")
ITERATED_AT_ONCE = ("zip", "enumerate", "reversed", "range")
VIEWS = ("items", "keys", "values")


def breaches(source, own=frozenset()):
    """Return the list of what is wrong with a file of a package with these own methods, each with its rule."""
    tree = ast.parse(source)
    parents = {part: node for node in ast.walk(tree) for part in ast.iter_child_nodes(node)}
    found = breaches_of_text(source) + breaches_of_module(tree)
    for node in ast.walk(tree):
        rules = [rule for rule, broken in node_rules(node, own) + place_rules(node, parents.get(node)) if broken]
        found += ["%s, line %d" % (rule, getattr(node, "lineno", 0)) for rule in rules]
    return found


def breaches_of_names(sources):
    """Return the list of the names that are a method in one class of a package and something else in another."""
    classes = [node for source in sources for node in ast.walk(ast.parse(source)) if isinstance(node, ast.ClassDef)]
    found = [node for held in classes for node in held.body if isinstance(node, ast.FunctionDef)]
    properties = set(node.name for node in found if node.decorator_list)
    methods = set(node.name for node in found if not node.decorator_list)
    assigned = set(node.attr for source in sources for node in ast.walk(ast.parse(source))
                   if isinstance(node, ast.Attribute) and isinstance(node.ctx, (ast.Store, ast.Del)))
    unlike = methods & assigned | properties & assigned | methods & properties | properties & BUILTIN_METHODS
    return ["L18, %s is several things" % name for name in sorted(unlike)]


def own_methods(source):
    """Return the set of the names of the functions and methods that a file defines."""
    return set(node.name for node in ast.walk(ast.parse(source)) if isinstance(node, ast.FunctionDef))


def breaches_of_text(source):
    lines = source.split("\n")
    found = []
    if len(lines) - 1 > 399:
        found.append("L10, a file of %d lines" % (len(lines) - 1))
    for number, line in enumerate(lines, 1):
        if len(line) > 120:
            found.append("L10, line %d" % number)
        if not all(" " <= character <= "~" for character in line):
            found.append("L14, line %d" % number)
        if BARRED_WORDS.search(line):
            found.append("L17, line %d" % number)
    return found


def breaches_of_module(tree):
    found = []
    bound = []
    for index, node in enumerate(tree.body):
        if index == 0 and is_docstring(node):
            continue
        if not isinstance(node, MODULE_STATEMENTS):
            found.append("L3, line %d" % node.lineno)
        if isinstance(node, ast.Assign):
            calls = [part for part in ast.walk(node.value) if isinstance(part, ast.Call)]
            if calls or len(node.targets) != 1 or not isinstance(node.targets[0], ast.Name):
                found.append("L3, line %d" % node.lineno)
            if any(isinstance(part, (ast.List, ast.Dict)) and part != node.value for part in ast.walk(node.value)):
                found.append("L15, line %d" % node.lineno)
        bound += bound_names(node)
    found += ["L15, %s is bound twice" % name for name in sorted(set(bound)) if bound.count(name) > 1]
    return found + ["L15, %s has two meanings" % name for name in sorted(hidden_names(tree))]


def hidden_names(tree):
    """Return the set of the classes and imports of a file that a function gives another meaning."""
    outer = [node for node in tree.body if isinstance(node, (ast.ImportFrom, ast.ClassDef))]
    kept = [name for node in outer for name in bound_names(node)]
    inner = [part for node in ast.walk(tree) if isinstance(node, ast.FunctionDef) for part in ast.walk(node)]
    local = [part.id for part in inner if isinstance(part, ast.Name) and isinstance(part.ctx, ast.Store)]
    return set(kept) & set(local + [part.arg for part in inner if isinstance(part, ast.arg)])


def is_docstring(node):
    return isinstance(node, ast.Expr) and isinstance(node.value, ast.Constant) and isinstance(node.value.value, str)


def bound_names(node):
    """Return the names that a statement at module level binds."""
    if isinstance(node, ast.ImportFrom):
        return [alias.asname or alias.name for alias in node.names]
    if isinstance(node, (ast.FunctionDef, ast.ClassDef)):
        return [node.name]
    return [part.id for part in ast.walk(node) if isinstance(part, ast.Name) and isinstance(part.ctx, ast.Store)]


def node_rules(node, own):
    """Return tuples of a rule and whether this node breaks it."""
    if isinstance(node, BARRED_STATEMENTS):
        return [("L6", True)]
    if isinstance(node, ast.ImportFrom):
        starred = [alias.name for alias in node.names if alias.name == "*"]
        return [("L2", node.level > 0 or bool(starred) or not node.module.startswith("mendedruns."))]
    if isinstance(node, ast.FunctionDef):
        return function_rules(node)
    if isinstance(node, ast.ClassDef):
        return [("L5", bool(node.decorator_list)), ("L12", is_barred_name(node.name))]
    if isinstance(node, ast.arg):
        return [("L12", is_barred_name(node.arg))]
    if isinstance(node, ast.Name):
        return name_rules(node)
    if isinstance(node, ast.Constant):
        return constant_rules(node.value)
    if isinstance(node, ast.Compare):
        return compare_rules(node)
    if isinstance(node, ast.BinOp):
        free_power = isinstance(node.op, ast.Pow) and not isinstance(node.right, ast.Constant)
        return [("L7", isinstance(node.op, (ast.Div, ast.MatMult))), ("L27", free_power)]
    if isinstance(node, ast.ExceptHandler):
        return [("L19", any(is_barred_handler(part) for part in handled(node)))]
    if isinstance(node, ast.Call) and isinstance(node.func, ast.Attribute):
        return [("L25", node.func.attr not in BUILTIN_METHODS | own | {"__init__"})]
    if isinstance(node, ast.Attribute):
        return [("L8", node.attr.startswith("__") and node.attr != "__init__")]
    return []


def place_rules(node, parent):
    """Return tuples of a rule and whether this node breaks it where it stands."""
    if isinstance(node, ast.Raise):
        made = isinstance(node.exc, ast.Call) and isinstance(node.exc.func, ast.Name)
        return [("L19", node.exc is not None and not made)]
    if is_set(node):
        stored = isinstance(parent, ast.Assign) and isinstance(parent.targets[0], ast.Name)
        return [("L24", not (stored or isinstance(parent, (ast.Compare, ast.BinOp)) or is_call(parent, ("sorted", "len"))))]
    if is_call(node, ITERATED_AT_ONCE) or isinstance(node, ast.Call) and getattr(node.func, "attr", None) in VIEWS:
        return [("L23", not isinstance(parent, (ast.For, ast.comprehension, ast.Call, ast.YieldFrom)))]
    if isinstance(node, ast.GeneratorExp):
        return [("L5", is_call(parent, SUMMING))]
    if isinstance(node, ast.Call) and getattr(node.func, "attr", None) == "sort":
        return [("L25", True)]
    return []


def is_call(node, names):
    """Return whether a node calls a function with one of these names."""
    return isinstance(node, ast.Call) and isinstance(node.func, ast.Name) and node.func.id in names


def is_set(node):
    return isinstance(node, (ast.Set, ast.SetComp)) or is_call(node, ("set", "frozenset"))


def function_rules(node):
    allowed = [isinstance(part, ast.Name) and part.id in ("property", "staticmethod", "classmethod")
               or isinstance(part, ast.Attribute) and part.attr == "setter" for part in node.decorator_list]
    return [
        ("L10", node.end_lineno - node.lineno + 1 > 40), ("L4", not all(allowed) or bool(node.args.posonlyargs)),
        ("L12", node.name not in DUNDER_METHODS and is_barred_name(node.name)),
    ]


def name_rules(node):
    if isinstance(node.ctx, ast.Load):
        return [("L8", hasattr(builtins, node.id) and node.id not in BUILTINS)]
    return [("L12", is_barred_name(node.id))]


def constant_rules(value):
    if isinstance(value, str):
        return [("L27", "%" in value)]
    return [("L7", isinstance(value, (float, complex)))]


def compare_rules(node):
    plain = [isinstance(part, ast.Constant) and (part.value is None or isinstance(part.value, bool))
             for part in node.comparators]
    asked = [isinstance(part, (ast.Is, ast.IsNot)) for part in node.ops]
    return [("L20", any(by_is and not is_plain for by_is, is_plain in zip(asked, plain)))]


def handled(node):
    """Return the expressions of the error classes that a handler names, None for all."""
    return node.type.elts if isinstance(node.type, ast.Tuple) else [node.type]


def is_barred_handler(part):
    if not isinstance(part, ast.Name):
        return True
    return hasattr(builtins, part.id) and part.id not in CAUGHT_OF_PYTHON


def is_barred_name(name):
    plain = re.fullmatch("[A-Za-z0-9][A-Za-z0-9_]*", name)
    return not plain or name in BARRED_NAMES or hasattr(builtins, name)
