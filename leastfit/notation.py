"""The written forms of programs.

Both directions keep a list of what waits instead of calling themselves: a text of 2000 characters may be nested
hundreds of calls deep.
"""

from leastfit.components import is_component, names
from leastfit.errors import Malformed
from leastfit.programs import program_kind
from leastfit.values import DIGITS, index_behind, scan_value, write_value


def write_program(program):
    """Return the written form of a program."""
    written = []
    waiting = [program]
    while waiting:
        piece = waiting.pop()
        if isinstance(piece, str):
            written.append(piece)
        elif piece[0] == "input":
            written.append(f"x{piece[1]}")
        elif piece[0] == "constant":
            written.append(write_value(piece[1]))
        else:
            # The last one waits first, so that the pieces are written in their order.
            waiting.extend(_pieces(piece)[::-1])
    return "".join(written)


def read_program(kinds, text):
    """Return the program with this written form, for a list of input kinds. Raise Malformed or InvalidProgram."""
    program, end = _scan_program(text)
    if end < len(text):
        raise Malformed(end)
    program_kind(kinds, program)
    return program


def _pieces(call):
    """Return the list of the texts and the arguments of which the written form of a call is made."""
    pieces = ["(" + call[0]]
    for argument in call[1:]:
        pieces.extend([" ", argument])
    pieces.append(")")
    return pieces


def _scan_program(text):
    """Return the tuple whose written form the text begins with, and the index behind this form. Raise Malformed."""
    calls = []
    index = 0
    while True:
        if text[index:index + 1] == "(":
            name, index = _scan_name(text, index + 1)
            calls.append([name])
            continue
        part, index = _scan_leaf(text, index)
        part, index = _closed(text, index, part, calls)
        if not calls:
            return part, index
        index = index_behind(text, index, " ")


def _closed(text, index, part, calls):
    """Put the part into the innermost call, and go on with each call that ends there, which becomes the part itself.

    Return the last such part, and the index behind it. The calls that have not ended stay in the list.
    """
    while calls:
        calls[-1].append(part)
        if text[index:index + 1] != ")":
            break
        part = tuple(calls.pop())
        index += 1
    return part, index


def _scan_name(text, start):
    """Return the component's name that begins at start, and the index behind the space that follows it."""
    known = names()
    end = start
    while end < len(text) and any([name.startswith(text[start:end + 1]) for name in known]):
        end += 1
    name = text[start:end]
    if not is_component(name):
        raise Malformed(end)
    return name, index_behind(text, end, " ")


def _scan_leaf(text, start):
    """Return the input or the constant that begins at start, and the index behind it."""
    if text[start:start + 1] == "x":
        number, end = _scan_index(text, start + 1)
        return ("input", number), end
    value, end = scan_value(text, start)
    return ("constant", value), end


def _scan_index(text, start):
    """Return the index of an input that begins at start, of at most two digits, and the index behind it."""
    if not _is_digit(text, start):
        raise Malformed(start)
    end = start + 1
    if text[start] != "0" and _is_digit(text, end):
        end += 1
    return int(text[start:end]), end


def _is_digit(text, index):
    return index < len(text) and text[index] in DIGITS
