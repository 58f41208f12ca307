"""Programs: expressions, instructions, and what is wrong with values that shall be such."""

from exactroom.errors import InvalidValue
from exactroom.sizes import is_integer, is_name

MAX_DEPTH = 6
MAX_INSTRUCTIONS = 200
MAX_NUMBER = 1000000000000
OPERATORS = ("add", "sub", "less", "equal")
# What the parts of an instruction behind its word are: names, expressions or bodies.
FORMS = {
    "new": ("name", "expression"),
    "drop": ("name",),
    "resize": ("name", "expression"),
    "store": ("name", "expression", "expression"),
    "load": ("name", "name", "expression"),
    "set": ("name", "expression"),
    "out": ("expression",),
    "reserve": ("expression",),
    "if": ("expression", "body", "body"),
    "repeat": ("expression", "body"),
    "attempt": ("body", "name", "body"),
}


def is_expression_within(value, depth):
    """Return whether the value, of any kind, is an expression of at most this depth."""
    if depth == 0:
        return False
    if not isinstance(value, tuple):
        return is_name(value) or is_integer(value) and abs(value) <= MAX_NUMBER
    if len(value) != 3 or not isinstance(value[0], str) or value[0] not in OPERATORS:
        return False
    return is_expression_within(value[1], depth - 1) and is_expression_within(value[2], depth - 1)


def is_expression(value):
    """Return whether the value, of any kind, is an expression."""
    return is_expression_within(value, MAX_DEPTH)


def computed(expression, variables):
    """Return the value of what is an expression."""
    if isinstance(expression, int):
        return expression
    if isinstance(expression, str):
        return variables.get(expression, 0)
    word, left, right = expression
    first = computed(left, variables)
    second = computed(right, variables)
    if word == "add":
        return first + second
    if word == "sub":
        return first - second
    holds = first < second if word == "less" else first == second
    return 1 if holds else 0


def value_of(expression, variables):
    """Return the value of an expression with these variables."""
    if not is_expression(expression):
        raise InvalidValue(expression)
    return computed(expression, variables)


def is_part(kind, value):
    """Return whether the value, of any kind, can be such a part of an instruction; a body is not looked into."""
    if kind == "name":
        return is_name(value)
    return is_expression(value) if kind == "expression" else isinstance(value, list)


def is_instruction(value):
    """Return whether the value, of any kind, is an instruction, whatever its bodies contain."""
    if not isinstance(value, tuple) or len(value) == 0 or not isinstance(value[0], str) or value[0] not in FORMS:
        return False
    kinds = FORMS[value[0]]
    return len(value) == 1 + len(kinds) and all([is_part(kind, part) for kind, part in zip(kinds, value[1:])])


def placed(body, path):
    """Return tuples (path, instruction) of the instructions of a body to which this path leads."""
    return [((*path, index), instruction) for index, instruction in enumerate(body)]


def placed_in(instruction, path):
    """Return tuples (path, instruction) of the instructions of the bodies of an instruction."""
    found = []
    for position, part in enumerate(instruction):
        if isinstance(part, list):
            found += placed(part, (*path, position))
    return found


def depth_at(path):
    """Return the depth of an instruction: each body around it adds two indices to its path."""
    return (len(path) + 1) // 2


def first_problem(value):
    """Return None if the value, of any kind, is a program; otherwise the path of its first problem."""
    if not isinstance(value, list):
        return ()
    count = 0
    # The next instruction is the last one here, so that those in its bodies can be put behind the later ones.
    waiting = placed(value, ())[::-1]
    while waiting:
        path, instruction = waiting.pop()
        count += 1
        if count > MAX_INSTRUCTIONS or depth_at(path) > MAX_DEPTH or not is_instruction(instruction):
            return path
        waiting += placed_in(instruction, path)[::-1]
    return None


def is_program(value):
    """Return whether the value, of any kind, is a program."""
    return first_problem(value) is None


def copy_of(body):
    """Return a copy of the instructions of a body or a program, with copies of the bodies in them."""
    return [tuple([copy_of(part) if isinstance(part, list) else part for part in instruction])
            for instruction in body]
