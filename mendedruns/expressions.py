"""Expressions: which tuples are expressions, the names in them, and their values."""

from mendedruns.errors import InvalidExpression, InvalidState
from mendedruns.values import are_equal, is_name, is_value, is_variables, kind_of

DEEPEST_EXPRESSION = 8
MOST_LIST_PARTS = 10

# How many parts an expression with this word has; those of a list are counted apart.
PART_COUNTS = {
    "add": 2, "subtract": 2, "multiply": 2, "divide": 2, "less": 2,
    "equal": 2, "join": 2, "item": 2, "size": 1,
}

# The kinds of values that the parts may have together; words that take any are left out.
PART_KINDS = {
    "add": (("integer", "integer"),),
    "subtract": (("integer", "integer"),),
    "multiply": (("integer", "integer"),),
    "divide": (("integer", "integer"),),
    "less": (("integer", "integer"),),
    "join": (("text", "text"), ("list", "list")),
    "size": (("text",), ("list",)),
    "item": (("list", "integer"),),
}


def evaluate(expression, variables):
    """Return ("value", value) or ("failed", reason)."""
    check_expression(expression)
    if not is_variables(variables):
        raise InvalidState(variables)
    return evaluated(expression, variables)


def names_in(expression):
    """Return the list of the names in an expression, each once, in the order of writing."""
    check_expression(expression)
    return list({name: True for name in written_names(expression)})


def check_expression(expression):
    """Raise an error if something is no expression."""
    if not is_expression(expression):
        raise InvalidExpression(expression)


def is_expression(expression):
    """Return whether something is an expression."""
    return is_nested_expression(expression, DEEPEST_EXPRESSION)


def is_nested_expression(expression, depth):
    """Return whether something is an expression that is nested at most so deep."""
    if depth == 0 or not is_form(expression):
        return False
    word = expression[0]
    if word == "value":
        return is_value(expression[1])
    if word == "name":
        return is_name(expression[1])
    # One part after the other, so that the first wrong one ends the search.
    for part in expression[1:]:
        if not is_nested_expression(part, depth - 1):
            return False
    return True


def is_form(expression):
    """Return whether something is a tuple with a known word and as many parts as this word has."""
    if not isinstance(expression, tuple) or len(expression) == 0 or not isinstance(expression[0], str):
        return False
    word = expression[0]
    count = len(expression) - 1
    if word == "list":
        return count <= MOST_LIST_PARTS
    if word == "value" or word == "name":
        return count == 1
    return PART_COUNTS.get(word) == count


def written_names(expression):
    """Return the list of the names in an expression that was checked, as often as they are written."""
    if expression[0] == "name":
        return [expression[1]]
    if expression[0] == "value":
        return []
    return [name for part in expression[1:] for name in written_names(part)]


def evaluated(expression, variables):
    """Return what evaluate does, for an expression and variables that were checked."""
    word = expression[0]
    if word == "value":
        return ("value", expression[1])
    if word == "name":
        return looked_up(expression[1], variables)
    values = []
    for part in expression[1:]:
        answer = evaluated(part, variables)
        if answer[0] == "failed":
            return answer
        values.append(answer[1])
    return applied(word, values)


def looked_up(name, variables):
    """Return the answer of the expression that is this name."""
    if name not in variables:
        return ("failed", "name")
    return ("value", variables[name])


def applied(word, values):
    """Return the answer of an expression with this word, all parts of which have values."""
    if not are_of_right_kinds(word, values):
        return ("failed", "kind")
    if word == "divide" and values[1] == 0:
        return ("failed", "zero")
    if word == "item" and not 0 <= values[1] < len(values[0]):
        return ("failed", "range")
    result = result_of(word, values)
    if not is_value(result):
        return ("failed", "size")
    return ("value", result)


def are_of_right_kinds(word, values):
    """Return whether the values of the parts are of the kinds that this word takes."""
    kinds = tuple([kind_of(value) for value in values])
    return word not in PART_KINDS or kinds in PART_KINDS[word]


def result_of(word, values):
    """Return what this word makes of values that it takes; it may be too large to be a value."""
    if word == "list":
        return tuple(values)
    if word == "size":
        return len(values[0])
    first, second = values
    if word == "item":
        return first[second]
    if word == "equal":
        return 1 if are_equal(first, second) else 0
    if word == "less":
        return 1 if first < second else 0
    if word == "subtract":
        return first - second
    if word == "multiply":
        return first * second
    if word == "divide":
        return first // second
    return first + second
