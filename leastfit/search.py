"""Search: it finds the least program that fits a goal, and makes the certificate."""

from leastfit.certificates import clue_rows, example_clues, fits_clues, make_table
from leastfit.errors import TooLarge
from leastfit.tables import MOST_ROWS, Table


class Search:
    """A search of a goal up to a greatest cost."""

    def __init__(self, goal, greatest_cost):
        self._goal = goal
        self._greatest_cost = greatest_cost
        self._clues = example_clues(goal)
        self._table = Table(goal.task(), clue_rows(self._clues))
        self._status = "none" if greatest_cost == 0 else "running"
        # The last program that was found to fit all clues of its time.
        self._candidate = None

    def step(self):
        """Do one step and return the status after it."""
        if self._status == "running":
            self._grow()
        return self._status

    def run(self, limit):
        """Do steps until the status is not "running", but at most this many. Return the status."""
        steps = 0
        while steps < limit and self._status == "running":
            self.step()
            steps += 1
        return self._status

    def status(self):
        """Return the status: "running", "least", "none" or "large"."""
        return self._status

    def level(self):
        """Return the level of the table."""
        return self._table.level()

    def clues(self):
        """Return the list of the clues."""
        return list(self._clues)

    def answer(self):
        """Return the answer: ("least", program, ..), ("none", cost, ..) or ("open",)."""
        if self._status == "least":
            return self._certificate(self._candidate, self._table.level())
        if self._status == "none":
            return self._certificate(self._greatest_cost, self._greatest_cost)
        return ("open",)

    def _certificate(self, subject, cost):
        return (self._status, subject, self.clues(), make_table(self._table, cost))

    def _grow(self):
        try:
            level = self._table.grow()
        except TooLarge:
            self._status = "large"
            return
        found = self._first_fitting(level)
        if found is not None:
            self._candidate = found
            self._look_at_rows()
        elif level == self._greatest_cost:
            self._status = "none"

    def _first_fitting(self, level):
        """Return the first program of this cost that fits the clues, or None."""
        for program, row_outcomes in self._table.classes(self._goal.task().result(), level):
            if fits_clues(self._goal, self._clues, row_outcomes):
                return program
        return None

    def _look_at_rows(self):
        """Take the candidate as the least program if it meets all rows of the box, or else ask for the first other."""
        failed = self._goal.failure(self._candidate)
        if failed is None:
            self._status = "least"
        else:
            self._ask(failed[1])

    def _ask(self, row):
        self._clues.append(("asked", row))
        if len(self._clues) > MOST_ROWS:
            self._status = "large"
        else:
            self._table = Table(self._goal.task(), clue_rows(self._clues))
