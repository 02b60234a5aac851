"""Programs: their forms, kinds, parts and symbols."""

from leastfit.components import argument_kinds, is_component, result_kind
from leastfit.errors import InvalidProgram
from leastfit.values import is_of_some_kind, kind_of_value

MOST_PARTS = 60
MOST_DEPTH = 30


def program_kind(kinds, program):
    """Return the kind of a program for a list of input kinds. Raise InvalidProgram."""
    # A list takes the place of recursion, so that one count goes on through all parts.
    waiting = [(program, None, 1)]
    checked = 0
    while waiting:
        part, wanted, level = waiting.pop()
        if checked == MOST_PARTS or level > MOST_DEPTH or not _is_sound(kinds, part, wanted):
            raise InvalidProgram(part)
        checked += 1
        # The last one waits first, so that the parts are checked in preorder.
        waiting.extend(_wanted_arguments(part, level + 1)[::-1])
    return _part_kind(kinds, program)


def size(program):
    """Return the number of the parts of a program."""
    return len(parts(program))


def depth(program):
    """Return the depth of a program, which is 1 for an input or a constant."""
    greatest = 1
    waiting = [(program, 1)]
    while waiting:
        part, level = waiting.pop()
        greatest = max(greatest, level)
        waiting.extend([(argument, level + 1) for argument in arguments_of(part)])
    return greatest


def symbols(program):
    """Return the list of the symbols of a program in preorder."""
    return [part if is_leaf(part) else part[0] for part in parts(program)]


def parts(program):
    """Return the list of the parts of a program in preorder."""
    found = []
    waiting = [program]
    while waiting:
        part = waiting.pop()
        found.append(part)
        waiting.extend(arguments_of(part)[::-1])
    return found


def is_leaf(part):
    """Return True if a part is an input or a constant."""
    return part[0] == "input" or part[0] == "constant"


def arguments_of(part):
    """Return the tuple of the arguments of a part, which is empty for an input or a constant."""
    return () if is_leaf(part) else part[1:]


def _is_sound(kinds, part, wanted):
    """Return True if the part has no error of its own: its arguments are not looked at."""
    if not isinstance(part, tuple) or len(part) == 0:
        return False
    if part[0] == "input":
        sound = len(part) == 2 and _is_index(part[1], len(kinds))
    elif part[0] == "constant":
        sound = len(part) == 2 and is_of_some_kind(part[1])
    else:
        sound = is_component(part[0]) and len(part) - 1 == len(argument_kinds(part[0]))
    return sound and (wanted is None or _part_kind(kinds, part) == wanted)


def _is_index(value, many):
    return isinstance(value, int) and not isinstance(value, bool) and 0 <= value < many


def _part_kind(kinds, part):
    if part[0] == "input":
        return kinds[part[1]]
    if part[0] == "constant":
        return kind_of_value(part[1])
    return result_kind(part[0])


def _wanted_arguments(part, level):
    if is_leaf(part):
        return []
    return [(argument, kind, level) for argument, kind in zip(part[1:], argument_kinds(part[0]))]
