"""Tables: the classes of the programs of a task that have the same outcomes on some rows, by their costs."""

from leastfit.candidates import candidates
from leastfit.errors import InvalidRow, TooLarge
from leastfit.values import KINDS, is_row, is_value

MOST_ROWS = 40
MOST_LEVELS = 30
MOST_CLASSES = 20000
STRIDE = 1000


class Table:
    """A table, which is filled level by level."""

    def __init__(self, task, rows):
        _check_rows(task.kinds(), rows)
        self._task = task
        self._rows = list(rows)
        # For each finished level a dict: for each kind the list of the representatives in their order.
        self._levels = []
        # By the kind and the outcomes of each class of a finished level, its cost and its program.
        self._classes_by_outcomes = {}
        # The candidates of the present level that are left, or None if there was no work on it yet.
        self._left = None
        # By kind and outcomes, the representatives of the new classes of the present level.
        self._new = {}

    def work(self, fuel):
        """Take at most this many steps on the present level. Return True if it is finished then. Raise TooLarge."""
        self._begin()
        steps = 0
        while steps < fuel and not self._left.is_empty():
            self._add(self._left.take())
            steps += 1
        if not self._left.is_empty():
            return False
        self._finish()
        return True

    def grow(self):
        """Finish the present level and return its number. Raise TooLarge."""
        while not self.work(STRIDE):
            pass
        return len(self._levels)

    def level(self):
        """Return how many levels are finished."""
        return len(self._levels)

    def rows(self):
        """Return the list of the rows."""
        return list(self._rows)

    def task(self):
        """Return the task."""
        return self._task

    def classes(self, kind, cost):
        """Return the list of the classes of a kind and a cost, as tuples (program, outcomes), in their order."""
        if not 1 <= cost <= len(self._levels):
            return []
        return [(found.program, found.outcomes) for found in self._levels[cost - 1][kind]]

    def find(self, kind, wanted):
        """Return (cost, program) for the class of a kind with these outcomes, or None."""
        # For Python, 1 and True are the same key.
        if not all([outcome is None or is_value(kind, outcome) for outcome in wanted]):
            return None
        return self._classes_by_outcomes.get((kind, wanted))

    def count(self):
        """Return the number of the classes of all finished levels."""
        return len(self._classes_by_outcomes)

    def _begin(self):
        if len(self._levels) == MOST_LEVELS:
            raise TooLarge("levels")
        if self._left is None:
            self._left = candidates(self._task, self._rows, self._levels, len(self._levels) + 1)

    def _add(self, candidate):
        key = (candidate.kind, candidate.outcomes)
        if key in self._classes_by_outcomes:
            return
        if key in self._new:
            if candidate.order < self._new[key].order:
                self._new[key] = candidate
            return
        if len(self._classes_by_outcomes) + len(self._new) == MOST_CLASSES:
            self._forget()
            raise TooLarge("classes")
        self._new[key] = candidate

    def _finish(self):
        cost = len(self._levels) + 1
        added = {kind: [] for kind in KINDS}
        for found in sorted(self._new.values(), key=lambda candidate: candidate.order):
            added[found.kind].append(found)
            self._classes_by_outcomes[(found.kind, found.outcomes)] = (cost, found.program)
        self._levels.append(added)
        self._forget()

    def _forget(self):
        """Drop the work on a level that is not finished."""
        self._left = None
        self._new = {}


def _check_rows(kinds, rows):
    for index, row in enumerate(rows):
        if index == MOST_ROWS or not is_row(kinds, row):
            raise InvalidRow(index)
