"""Certificates: the clues of a goal, and lists of lines that stand for all programs up to a cost."""

from leastfit.values import KINDS, is_row, is_value


def clue_rows(clues):
    """Return the list of the rows of the clues."""
    return [clue[1] for clue in clues]


def is_clue(goal, clue):
    """Return True if this is a clue of the goal. It may be anything."""
    if not isinstance(clue, tuple):
        return False
    if len(clue) == 3 and clue[0] == "example":
        return _is_example(goal, clue[1], clue[2])
    return len(clue) == 2 and clue[0] == "asked" and _is_in_box(goal, clue[1])


def fits_clues(goal, clues, outcomes):
    """Return True if a line of the result kind with these outcomes on the rows of the clues fits the clues."""
    for clue, outcome in zip(clues, outcomes):
        if not _fits(goal, clue, outcome):
            return False
    return True


def example_clues(goal):
    """Return the list of the clues of all examples, in order, each equal clue once."""
    clues = []
    for row, value in goal.examples():
        clue = ("example", row, value)
        if clue not in clues:
            clues.append(clue)
    return clues


def make_table(table, cost):
    """Return the dict with the list of the lines of each kind: the classes of at most this cost."""
    lines = {}
    for kind in KINDS:
        lines[kind] = []
        for level in range(1, cost + 1):
            lines[kind].extend(table.classes(kind, level))
    return lines


def _is_example(goal, row, value):
    # The kinds are looked at first: for Python, 1 and True are equal.
    task = goal.task()
    return is_row(task.kinds(), row) and is_value(task.result(), value) and (row, value) in goal.examples()


def _is_in_box(goal, row):
    if not is_row(goal.task().kinds(), row):
        return False
    return all([value in values for value, values in zip(row, goal.box())])


def _fits(goal, clue, outcome):
    if clue[0] == "asked":
        return goal.accepts_outcome(clue[1], outcome)
    return is_value(goal.task().result(), outcome) and outcome == clue[2]
