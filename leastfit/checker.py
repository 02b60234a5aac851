"""The checker: it accepts or refuses certificates, without any search."""

from leastfit.certificates import clue_rows, fits_clues, is_clue
from leastfit.components import apply, argument_kinds, result_kind
from leastfit.errors import InvalidProgram
from leastfit.meaning import outcomes
from leastfit.values import KINDS, is_value

GREATEST_COST = 30


class Line:
    """The outcomes of a line, with the cost of its program and the list of the ranks of its symbols.

    Programs stand in the order of these costs and then of these lists.
    """

    def __init__(self, row_outcomes, price, order):
        self.outcomes = row_outcomes
        self.price = price
        self.order = order


class Lines:
    """The lines of a table up to a cost, as far as they have been looked at."""

    def __init__(self, task, rows, cost):
        self._task = task
        self._rows = rows
        self._cost = cost
        self._lines = {kind: [] for kind in KINDS}
        # By the kind and the outcomes. In one kind, 1 and True do not both occur.
        self._line_of = {}

    def take(self, kind, line):
        """Take the next line of this kind if rules 1 and 2 hold for it, and return True if they do."""
        if not self._is_true(kind, line):
            return False
        program, row_outcomes = line
        price = self._task.cost(program)
        order = self._task.ranks(program)
        if price > self._cost or (kind, row_outcomes) in self._line_of:
            return False
        earlier = self._lines[kind]
        if earlier and (price, order) <= (earlier[-1].price, earlier[-1].order):
            return False
        taken = Line(row_outcomes, price, order)
        earlier.append(taken)
        self._line_of[(kind, row_outcomes)] = taken
        return True

    def has_symbols(self):
        """Return True if rules 3 and 4 hold for each symbol of the task."""
        for rank, (symbol, price) in enumerate(self._task.costed_symbols()):
            if isinstance(symbol, str):
                if not self._has_calls(symbol, rank, [], price):
                    return False
            elif price <= self._cost:
                if not self._has(self._task.check(symbol), outcomes(symbol, self._rows), price, [rank]):
                    return False
        return True

    def _is_true(self, kind, line):
        """Return True if this is a line whose program is of the kind and has the outcomes that are told."""
        if not isinstance(line, tuple) or len(line) != 2:
            return False
        program, told = line
        if _kind_in_task(self._task, program) != kind or not isinstance(told, tuple):
            return False
        # The kinds are looked at first: for Python, 1 and True are equal.
        if not all(outcome is None or is_value(kind, outcome) for outcome in told):
            return False
        return told == outcomes(program, self._rows)

    def _has(self, kind, row_outcomes, price, order):
        """Return True if a line has these outcomes and its program stands at this place in the order or before it."""
        line = self._line_of.get((kind, row_outcomes))
        return line is not None and (line.price, line.order) <= (price, order)

    def _has_calls(self, name, rank, chosen, price):
        """Return True if rule 4 holds for all calls of a component whose first arguments are the chosen lines.

        The price is that of the component and the chosen lines together.
        """
        kinds = argument_kinds(name)
        if len(chosen) == len(kinds):
            return self._has_call(name, rank, chosen, price)
        for line in self._lines[kinds[len(chosen)]]:
            # The lines stand in the order of their costs.
            if price + line.price > self._cost:
                break
            if not self._has_calls(name, rank, [*chosen, line], price + line.price):
                return False
        return True

    def _has_call(self, name, rank, chosen, price):
        columns = [line.outcomes for line in chosen]
        row_outcomes = tuple([apply(name, row) for row in zip(*columns)])
        order = [rank]
        for line in chosen:
            order.extend(line.order)
        return self._has(result_kind(name), row_outcomes, price, order)


def is_closed(task, rows, cost, lines):
    """Return True if the dict of lists of lines is a closed table up to the cost for the rows."""
    if not _is_dict_of_lists(lines):
        return False
    looked_at = Lines(task, rows, cost)
    for kind in KINDS:
        for line in lines[kind]:
            if not looked_at.take(kind, line):
                return False
    return looked_at.has_symbols()


def accepts(goal, certificate):
    """Return True if the certificate is accepted for the goal. It may be anything."""
    cost = _told_cost(goal, certificate)
    if cost is None:
        return False
    rows = clue_rows(certificate[2])
    return is_closed(goal.task(), rows, cost, certificate[3]) and _excludes_others(goal, certificate)


def still_accepts(goal, certificate):
    """Return True if the certificate, which was accepted for another goal of the task, is accepted for this one."""
    # Whether its table is closed follows from its clues alone, so that this is not looked at again.
    return _told_cost(goal, certificate) is not None and _excludes_others(goal, certificate)


def _kind_in_task(task, program):
    """Return the kind of a program of the task, or None if this is no such program."""
    try:
        return task.check(program)
    except InvalidProgram:
        return None


def _is_dict_of_lists(lines):
    if not isinstance(lines, dict) or len(lines) != len(KINDS):
        return False
    return all(isinstance(lines.get(kind), list) for kind in KINDS)


def _told_cost(goal, certificate):
    """Return the cost up to which the table of the certificate should go.

    Return None if it has not the form of a certificate, a clue is not one of the goal, or its program does not fit.
    """
    if not isinstance(certificate, tuple) or len(certificate) != 4:
        return None
    word, subject, clues, _ = certificate
    if not isinstance(clues, list) or not all(is_clue(goal, clue) for clue in clues):
        return None
    if word == "none":
        return subject if _is_cost(subject) else None
    if word == "least":
        return _cost_of_fitting(goal, subject)
    return None


def _is_cost(cost):
    # For Python, True is an integer.
    return isinstance(cost, int) and not isinstance(cost, bool) and 0 <= cost <= GREATEST_COST


def _cost_of_fitting(goal, program):
    """Return the cost of the program if it is a program of the task that fits the goal and is not too costly."""
    task = goal.task()
    if _kind_in_task(task, program) != task.result():
        return None
    cost = task.cost(program)
    return cost if cost <= GREATEST_COST and goal.failure(program) is None else None


def _excludes_others(goal, certificate):
    """Return True if no line that would contradict the certificate fits its clues."""
    word, subject, clues, lines = certificate
    task = goal.task()
    for program, row_outcomes in lines[task.result()]:
        # The lines stand in the order of their programs.
        if word == "least" and task.compare(program, subject) >= 0:
            break
        if fits_clues(goal, clues, row_outcomes):
            return False
    return True
