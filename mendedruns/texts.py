"""Texts of values and programs, and the way back.

Reading is done loosely: where there is nothing to read, the result is no value or program, or one
that has another text. So whatever is read is checked, and written again to compare the texts.
"""

from mendedruns.checks import check_string
from mendedruns.errors import InvalidState, ParseError
from mendedruns.programs import STATEMENT_PARTS, check_program, first_wrong_place, parts_of
from mendedruns.values import DIGITS, MOST_DIGITS, has_only, is_name, is_value, kind_of

BRACKETS = "()[]{}"
OPENING = ("(", "[", "{")
CLOSING = (")", "]", "}")
# No program has brackets within each other as deep as this.
TOO_DEEP = 30


def format_value(value):
    """Return the text of a value."""
    if not is_value(value):
        raise InvalidState(value)
    return text_of_value(value)


def format_program(program):
    """Return the text of a program."""
    check_program(program)
    return text_of_block(program)


def parse_value(text):
    """Return the value that has a text."""
    check_string(text)
    value = read_value(text)
    if value is None:
        raise ParseError(text)
    return value


def parse_program(text):
    """Return the program that has a text."""
    check_string(text)
    program = tuple([statement_of(node) for node in nodes_of(text)])
    if first_wrong_place(program) is not None or text_of_block(program) != text:
        raise ParseError(text)
    return program


def read_value(text):
    """Return the value that has a text, or None."""
    nodes = nodes_of(text)
    if len(nodes) != 1:
        return None
    value = value_of(nodes[0])
    return value if is_value(value) and text_of_value(value) == text else None


def text_of_value(value):
    """Return the text of a value that was checked."""
    kind = kind_of(value)
    if kind == "integer":
        return str(value)
    if kind == "text":
        return "'" + value
    return "[" + " ".join([text_of_value(item) for item in value]) + "]"


def text_of_block(block):
    """Return the text of the statements of a right block."""
    return " ".join([text_of_statement(statement) for statement in block])


def text_of_statement(statement):
    """Return the text of a right statement."""
    return "(" + " ".join([statement[0]] + [text_of_part(kind, part) for kind, part in parts_of(statement)]) + ")"


def text_of_part(kind, part):
    """Return the text of a part of a statement."""
    if kind == "name":
        return part
    if kind == "expression":
        return text_of_expression(part)
    if kind == "parameters":
        return "[" + " ".join(list(part)) + "]"
    if kind == "expressions":
        return "[" + " ".join([text_of_expression(expression) for expression in part]) + "]"
    return "{" + text_of_block(part) + "}"


def text_of_expression(expression):
    """Return the text of a right expression."""
    if expression[0] == "value":
        return text_of_value(expression[1])
    if expression[0] == "name":
        return expression[1]
    return "(" + " ".join([expression[0]] + [text_of_expression(part) for part in expression[1:]]) + ")"


def nodes_of(text):
    """Return the list of the nodes of a text, an empty one if too many brackets are closed or nested.

    A node is a word, or a tuple of an opening bracket and the list of the nodes behind it.
    """
    nodes = []
    # The brackets that are not closed yet, each with the nodes that stand beside it.
    unclosed = []
    for word in words_of(text):
        if word in OPENING:
            unclosed.append((word, nodes))
            nodes = []
        elif word not in CLOSING:
            nodes.append(word)
        elif unclosed:
            opening, beside = unclosed.pop()
            beside.append((opening, nodes))
            nodes = beside
        else:
            return []
        if len(unclosed) == TOO_DEEP:
            return []
    return nodes


def words_of(text):
    """Return the list of the words and brackets in a text."""
    spaced = text
    for bracket in BRACKETS:
        spaced = spaced.replace(bracket, " " + bracket + " ")
    return [word for word in spaced.split(" ") if word != ""]


def items_behind(opening, node):
    """Return the list of the nodes behind an opening bracket, or None if a node is nothing like this."""
    return node[1] if kind_of(node) == "list" and node[0] == opening else None


def statement_of(node):
    """Return the statement that a node may be."""
    items = items_behind("(", node)
    if not items or kind_of(items[0]) != "text":
        return None
    kinds = STATEMENT_PARTS.get(items[0], ())
    return (items[0],) + tuple([part_of(kind, item) for kind, item in zip(kinds, items[1:])])


def part_of(kind, node):
    """Return the part of a statement that a node may be."""
    if kind == "name":
        return node
    if kind == "expression":
        return expression_of(node)
    if kind == "parameters" or kind == "expressions":
        items = items_behind("[", node)
    else:
        items = items_behind("{", node)
    if items is None:
        return None
    if kind == "parameters":
        return tuple(items)
    if kind == "expressions":
        return tuple([expression_of(item) for item in items])
    return tuple([statement_of(item) for item in items])


def expression_of(node):
    """Return the expression that a node may be."""
    if is_name(node):
        return ("name", node)
    items = items_behind("(", node)
    if not items:
        return ("value", value_of(node))
    return (items[0],) + tuple([expression_of(item) for item in items[1:]])


def value_of(node):
    """Return the value that a node may be."""
    if kind_of(node) == "text":
        return value_of_word(node)
    items = items_behind("[", node)
    return None if items is None else tuple([value_of(item) for item in items])


def value_of_word(word):
    """Return the value that a word may be."""
    if word.startswith("'"):
        return word[1:]
    digits = word[1:] if word.startswith("-") else word
    # Only what is short enough is made a number, since Python refuses too many digits.
    if digits == "" or len(digits) > MOST_DIGITS or not has_only(digits, DIGITS):
        return None
    return int(word)
