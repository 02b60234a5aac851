"""Goals: what a program must fit: examples, and properties that hold for it on all rows of a box."""

from leastfit.errors import InvalidProgram, InvalidValue, TooLarge
from leastfit.meaning import run
from leastfit.programs import program_kind
from leastfit.values import is_row, is_value

MOST_EXAMPLES = 20
MOST_PROPERTIES = 4
MOST_BOX_ROWS = 2000


class Goal:
    """Examples, properties and a box for the programs of a task that give its result kind."""

    def __init__(self, task, examples, properties, box):
        _check_examples(task, examples)
        _check_box(task.kinds(), box)
        _check_properties(task, properties)
        _check_sizes(examples, properties, box)
        self._task = task
        self._examples = list(examples)
        self._properties = list(properties)
        self._box = [list(values) for values in box]

    def task(self):
        """Return the task."""
        return self._task

    def examples(self):
        """Return the list of the examples, which are tuples (row, value)."""
        return list(self._examples)

    def properties(self):
        """Return the list of the properties."""
        return list(self._properties)

    def box(self):
        """Return the list of the lists of values, one for each input."""
        return [list(values) for values in self._box]

    def rows(self):
        """Return the list of the rows of the box, the last input changing fastest."""
        rows = [()]
        for values in self._box:
            rows = [(*row, value) for row in rows for value in values]
        return rows

    def holds(self, program, row):
        """Return True if the program meets the row: its outcome is defined, and every property holds for it."""
        return self.accepts_outcome(row, run(program, row))

    def accepts_outcome(self, row, outcome):
        """Return True if the outcome is defined and every property gives True on the row followed by it."""
        # This leaves out None, and for results of another kind also what Python takes for the same value.
        if not is_value(self._task.result(), outcome):
            return False
        longer = (*row, outcome)
        return all(run(prop, longer) is True for prop in self._properties)

    def failure(self, program):
        """Return ("example", k) or ("property", row) for the first one that the program does not fit, or None."""
        for index, (row, value) in enumerate(self._examples):
            if run(program, row) != value:
                return ("example", index)
        for row in self.rows():
            if not self.holds(program, row):
                return ("property", row)
        return None


def property_kinds(task):
    """Return the list of the kinds of the inputs of a property: those of the task, and the result."""
    return task.kinds() + [task.result()]


def count_rows(box):
    """Return how many rows a box has."""
    many = 1
    for values in box:
        many = many * len(values)
    return many


def _check_examples(task, examples):
    for row, value in examples:
        if not is_row(task.kinds(), row):
            raise InvalidValue(row)
        if not is_value(task.result(), value):
            raise InvalidValue(value)


def _check_box(kinds, box):
    if len(box) != len(kinds):
        raise InvalidValue(box)
    for kind, values in zip(kinds, box):
        for value in values:
            if not is_value(kind, value):
                raise InvalidValue(value)


def _check_properties(task, properties):
    for prop in properties:
        if program_kind(property_kinds(task), prop) != "truth":
            raise InvalidProgram(prop)


def _check_sizes(examples, properties, box):
    if len(examples) > MOST_EXAMPLES:
        raise TooLarge("examples")
    if len(properties) > MOST_PROPERTIES:
        raise TooLarge("properties")
    if count_rows(box) > MOST_BOX_ROWS:
        raise TooLarge("rows")
