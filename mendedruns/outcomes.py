"""What a step depends on, and what it comes to: its outcome follows from its statement and inputs alone."""

from mendedruns.expressions import evaluated, written_names
from mendedruns.programs import expressions_of
from mendedruns.values import are_equal, is_key, kind_of

# What the value of the first expression has to be, where a statement does not take any.
FIRST_KINDS = {
    "read": "key", "write": "key", "delete": "key", "if": "integer", "while": "integer", "each": "list", "scan": "text",
}


def name_labels(statement):
    """Return the list of the labels ("name", x) of the inputs that are variables."""
    names = [name for expression in expressions_of(statement) for name in written_names(expression)]
    return [("name", name) for name in list({name: True for name in names})]


def sought_label(statement, inputs):
    """Return the label of what a read or a scan looks for, given its variables; None if there is nothing."""
    if statement[0] not in ("read", "scan"):
        return None
    answer = evaluated(statement[2], variables_in(inputs))
    if answer[0] == "failed" or not is_taken(statement[0], answer[1]):
        return None
    return ("key" if statement[0] == "read" else "prefix", answer[1])


def variables_in(inputs):
    """Return the dict of the variables among inputs that have a value."""
    return {label[1]: value for label, value in inputs if label[0] == "name" and value is not None}


def is_taken(word, value):
    """Return whether a statement with this word takes the value of its first expression."""
    wanted = FIRST_KINDS.get(word)
    if wanted == "key":
        return is_key(value)
    return wanted is None or kind_of(value) == wanted


def outcome_of(statement, inputs):
    """Return the outcome of a step."""
    variables = variables_in(inputs)
    values = []
    for expression in expressions_of(statement):
        answer = evaluated(expression, variables)
        if answer[0] == "failed":
            return ("refused", answer[1])
        values.append(answer[1])
    if statement[0] == "call":
        return ("done", tuple(values))
    if not is_taken(statement[0], values[0]):
        return ("refused", "kind")
    if statement[0] == "refuse":
        return ("refused", values[0])
    return ("done", result_of_step(statement[0], values, inputs))


def result_of_step(word, values, inputs):
    """Return the value in the outcome of a step that is done, with these values of its expressions."""
    if word == "read" or word == "scan":
        return inputs[-1][1]
    if word == "write":
        return tuple(values)
    if word == "if" or word == "while":
        return 0 if values[0] == 0 else 1
    return values[0]


def touched_key(statement, outcome):
    """Return the key that a step wrote or deleted, or None."""
    if outcome[0] == "done" and statement[0] == "write":
        return outcome[1][0]
    if outcome[0] == "done" and statement[0] == "delete":
        return outcome[1]
    return None


def mark_of(inputs, old):
    """Return the mark of a step with these inputs, given the old step at its place, or None."""
    if old is None:
        return ("done", None)
    index = first_difference(inputs, old[1])
    return "kept" if index is None else ("done", index)


def first_difference(ones, others):
    """Return the first index at which two tuples have unequal items or only one has an item, or None."""
    for index, (one, other) in enumerate(zip(ones, others)):
        if not are_equal(one, other):
            return index
    if len(ones) != len(others):
        return min(len(ones), len(others))
    return None
