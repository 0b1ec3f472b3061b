"""Programs: which tuples are programs, and the places of the statements in them."""

from mendedruns.errors import InvalidProgram
from mendedruns.expressions import is_expression
from mendedruns.values import are_equal, is_name, kind_of

DEEPEST_BLOCK = 6
MOST_STATEMENTS = 100
MOST_PARAMETERS = 6

# What stands behind each word of a statement, in the order of writing.
# All but the first four of these kinds of parts are blocks, called by their words in places.
STATEMENT_PARTS = {
    "let": ("name", "expression"),
    "read": ("name", "expression"),
    "write": ("expression", "expression"),
    "delete": ("expression",),
    "if": ("expression", "then", "else"),
    "each": ("name", "expression", "each"),
    "scan": ("name", "expression", "scan"),
    "while": ("expression", "while"),
    "define": ("name", "parameters", "define"),
    "call": ("name", "name", "expressions"),
    "try": ("try", "other"),
    "refuse": ("expression",),
    "return": ("expression",),
}
PARTS_BESIDE_BLOCKS = ("name", "expression", "parameters", "expressions")


def check_program(program):
    """Raise an error with the place of the first wrong statement if something is no program."""
    place = first_wrong_place(program)
    if place is not None:
        raise InvalidProgram(place)


def places(program):
    """Return the list of the places of all statements, in the order of writing."""
    check_program(program)
    return [place for place, statement in placed_statements(program)]


def statement_at(program, place):
    """Return the statement at a place, or None; place may be any value."""
    check_program(program)
    for found, statement in placed_statements(program):
        if are_equal(found, place):
            return statement
    return None


def first_wrong_place(program):
    """Return the place of the first wrong statement, () if something is no block, None if nothing is wrong."""
    if kind_of(program) != "list":
        return ()
    count = 0
    procedures = {}
    for place, statement in placed_statements(program):
        count += 1
        if count > MOST_STATEMENTS or not is_statement(statement):
            return place
        if is_too_deep(statement, place) or not is_allowed(statement, place, procedures):
            return place
        if statement[0] == "define":
            procedures[statement[1]] = (place[0], len(statement[2]))
    return None


def placed_statements(program):
    """Yield tuples of a place and its statement, in the order of writing.

    Only a right statement has blocks to go into, so whoever is given a wrong one asks for no more.
    """
    pending = backwards(program, ())
    while pending:
        place, statement = pending.pop()
        yield (place, statement)
        for word, block in reversed(list(blocks_of(statement))):
            pending.extend(backwards(block, place + (word,)))


def backwards(block, place):
    """Return the list of the places and statements of a block, the last one first."""
    # No more are looked at in any block, however long it is.
    count = min(len(block), MOST_STATEMENTS + 1)
    return [(place + (index,), block[index]) for index in reversed(range(count))]


def is_statement(statement):
    """Return whether something is a statement, whatever its blocks consist of."""
    if kind_of(statement) != "list" or len(statement) == 0 or kind_of(statement[0]) != "text":
        return False
    kinds = STATEMENT_PARTS.get(statement[0], ())
    if len(kinds) == 0 or len(kinds) != len(statement) - 1:
        return False
    return all([is_part(kind, part) for kind, part in zip(kinds, statement[1:])])


def is_part(kind, part):
    """Return whether a part of a statement is of this kind."""
    if kind == "name":
        return is_name(part)
    if kind == "expression":
        return is_expression(part)
    if kind == "parameters":
        return are_parameters(part)
    if kind == "expressions":
        return kind_of(part) == "list" and all([is_expression(expression) for expression in part])
    return kind_of(part) == "list"


def are_parameters(value):
    """Return whether something is a tuple of not too many names, no two alike."""
    if kind_of(value) != "list" or len(value) > MOST_PARAMETERS:
        return False
    return all([is_name(name) for name in value]) and len(set(value)) == len(value)


def is_too_deep(statement, place):
    """Return whether a statement at this place has blocks that are nested too deep."""
    # A place has an index for each block that the statement stands in, with a word between two.
    depth = (len(place) + 1) // 2
    return depth == DEEPEST_BLOCK and len(blocks_of(statement)) > 0


def is_allowed(statement, place, procedures):
    """Return whether a statement does not define or call a procedure where it must not.

    procedures is a dict from the names of the procedures that are defined above to tuples of
    the index of the statement that does so and the number of parameters.
    """
    if statement[0] == "define":
        return len(place) == 1 and statement[1] not in procedures
    if statement[0] == "call":
        index, count = procedures.get(statement[2], (place[0], 0))
        return index < place[0] and count == len(statement[3])
    return True


def parts_of(statement):
    """Return the list of the parts of a right statement, each behind its kind."""
    return list(zip(STATEMENT_PARTS[statement[0]], statement[1:]))


def blocks_of(statement):
    """Return the list of the blocks of a right statement, each behind its word."""
    return [(kind, part) for kind, part in parts_of(statement) if kind not in PARTS_BESIDE_BLOCKS]


def expressions_of(statement):
    """Return the list of the expressions of a right statement, in the order of writing."""
    found = []
    for kind, part in parts_of(statement):
        if kind == "expression":
            found.append(part)
        elif kind == "expressions":
            found.extend(list(part))
    return found
