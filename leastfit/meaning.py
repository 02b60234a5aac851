"""The meaning of programs: their outcomes on rows."""

from leastfit.components import apply


def run(program, row):
    """Return the outcome of a program on a row."""
    if program[0] == "input":
        return row[program[1]]
    if program[0] == "constant":
        return program[1]
    return apply(program[0], [run(argument, row) for argument in program[1:]])


def outcomes(program, rows):
    """Return the tuple of the outcomes of a program on a list of rows."""
    return tuple([run(program, row) for row in rows])
