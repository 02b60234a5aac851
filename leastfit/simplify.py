"""Simplifying: replacing a program with one that has the same outcome on every row and is not greater."""

from leastfit.components import is_commutative
from leastfit.programs import is_leaf

# Rule 1: components that undo themselves.
SELF_INVERSE = ("neg", "negate", "reverse", "reverse_text")

# Rules 2 and 3: for a component those that make no difference when they stand directly inside of it.
WITHOUT_EFFECT = {
    "abs": ("abs", "neg"),
    "sort": ("sort", "reverse"),
    "distinct": ("distinct",),
    "keep_even": ("keep_even",),
    "length": ("reverse_text",),
    "size": ("reverse", "sort"),
    "sum": ("reverse", "sort"),
    "product": ("reverse", "sort"),
    "greatest": ("reverse", "sort"),
    "least": ("reverse", "sort"),
    "words": ("reverse_text",),
}

# Rule 4: components that give what both arguments are, if these are equal.
IDEMPOTENT = ("max", "min", "both", "either")

# Rule 6: the places of an argument, each with the constant that makes the component give the other argument.
NEUTRAL = {
    "add": ((0, 0),),
    "mul": ((0, 1),),
    "sub": ((1, 0),),
    "divide": ((1, 1),),
    "concat": ((0, ""), (1, "")),
    "join": ((0, ()), (1, ())),
    "drop": ((1, 0),),
    "skip": ((1, 0),),
    "add_each": ((1, 0),),
    "both": ((0, True),),
    "either": ((0, False),),
}


def simplify(program):
    """Return the simplified program."""
    if is_leaf(program):
        return program
    part = (program[0], *[simplify(argument) for argument in program[1:]])
    changed = _changed(part)
    # What a rule gives has simplified arguments again, so that only the part itself is looked at.
    while changed is not None:
        part = changed
        changed = _changed(part)
    return part


def precedes(first, second):
    """Return True if the first program comes before the second one in the order of the arguments."""
    return _place(first) < _place(second)


def _changed(part):
    """Return what the first rule that applies to the part makes of it, or None if none applies."""
    if is_leaf(part):
        return None
    if len(part) == 2:
        return _changed_unary(part[0], part[1])
    if len(part) == 3:
        return _changed_binary(part[0], part[1], part[2])
    return None


def _changed_unary(name, argument):
    if name in SELF_INVERSE and argument[0] == name:
        return argument[1]
    if name in WITHOUT_EFFECT and argument[0] in WITHOUT_EFFECT[name]:
        return (name, argument[1])
    return None


def _changed_binary(name, first, second):
    # Both arguments are of one kind, and so are the parts at one place of equal components: no 1 meets a True here.
    if name in IDEMPOTENT and first == second:
        return first
    if is_commutative(name) and precedes(second, first):
        return (name, second, first)
    for index, value in NEUTRAL.get(name, ()):
        if (first, second)[index] == ("constant", value):
            return (second, first)[index]
    return None


def _place(program):
    """Return a tuple that is less than that of another program if the program comes before the other one."""
    if program[0] == "constant":
        return (0, _place_of_kind(program[1]), program[1])
    if program[0] == "input":
        return (1, program[1])
    return (2, program[0], *[_place(argument) for argument in program[1:]])


def _place_of_kind(value):
    """Return the place of the kind of a constant in the order number, truth, text, list."""
    # The limits of the kinds do not matter here: a constant that is beyond them has its place too.
    if isinstance(value, bool):
        return 1
    if isinstance(value, int):
        return 0
    return 2 if isinstance(value, str) else 3
