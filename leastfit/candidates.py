"""The candidates for the classes of one level of a table, in the order of the work."""

from leastfit.components import apply, argument_kinds, result_kind
from leastfit.meaning import outcomes


class Candidate:
    """A program with its kind, its outcomes on the rows and the tuple of the ranks of its symbols.

    Programs of the same cost stand in the order of these tuples.
    """

    def __init__(self, kind, program, row_outcomes, order):
        self.kind = kind
        self.program = program
        self.outcomes = row_outcomes
        self.order = order


class Leaf:
    """The one candidate that is an input or a constant."""

    def __init__(self, candidate):
        self._candidate = candidate

    def many(self):
        """Return the number of the candidates."""
        return 1

    def candidate(self, position):
        """Return the candidate at a position, of which there is only 0."""
        return self._candidate


class Calls:
    """The candidates that are calls of one component, with arguments of the same costs.

    There is one pool for each argument: the list of the representatives that may stand there.
    """

    def __init__(self, name, rank, pools):
        self._name = name
        self._kind = result_kind(name)
        self._rank = rank
        self._pools = pools

    def many(self):
        """Return the number of the candidates."""
        total = 1
        for pool in self._pools:
            total = total * len(pool)
        return total

    def candidate(self, position):
        """Return the candidate at a position, where the last argument changes fastest."""
        arguments = self._arguments(position)
        programs = [argument.program for argument in arguments]
        columns = [argument.outcomes for argument in arguments]
        row_outcomes = tuple([apply(self._name, row) for row in zip(*columns)])
        order = [self._rank]
        for argument in arguments:
            order.extend(argument.order)
        return Candidate(self._kind, (self._name, *programs), row_outcomes, tuple(order))

    def _arguments(self, position):
        arguments = []
        for pool in self._pools[::-1]:
            position, place = divmod(position, len(pool))
            arguments.append(pool[place])
        return arguments[::-1]


class Queue:
    """The candidates of one level that are left."""

    def __init__(self, groups):
        # Without the empty groups, a group that is left has a candidate that is left.
        self._groups = [group for group in groups if group.many() > 0]
        self._group = 0
        self._position = 0

    def is_empty(self):
        """Return True if no candidate is left."""
        return self._group == len(self._groups)

    def take(self):
        """Return the first candidate that is left, which is then no longer left."""
        group = self._groups[self._group]
        candidate = group.candidate(self._position)
        self._position += 1
        if self._position == group.many():
            self._group += 1
            self._position = 0
        return candidate


def candidates(task, rows, levels, cost):
    """Return the queue of the candidates of this cost.

    There is a dict for each finished level, from level 1 on: for each kind the list of the representatives.
    """
    groups = []
    # The order of the ranks is that of the work: inputs, constants, components.
    for rank, (symbol, price) in enumerate(task.costed_symbols()):
        if isinstance(symbol, str):
            for costs in splits(cost - price, len(argument_kinds(symbol))):
                groups.append(Calls(symbol, rank, _pools(symbol, levels, costs)))
        elif price == cost:
            groups.append(Leaf(Candidate(task.check(symbol), symbol, outcomes(symbol, rows), (rank,))))
    return Queue(groups)


def splits(total, many):
    """Return the list of all tuples of this many costs, each at least 1, with this sum, in ascending order."""
    if many == 1:
        return [(total,)] if total > 0 else []
    return [(first, *rest) for first in range(1, total) for rest in splits(total - first, many - 1)]


def _pools(name, levels, costs):
    return [levels[cost - 1][kind] for kind, cost in zip(argument_kinds(name), costs)]
