"""Tasks: of which parts programs may be made, what these cost, and in which order the programs stand."""

from leastfit.components import is_component
from leastfit.errors import InvalidProgram, InvalidTask
from leastfit.programs import parts, program_kind, symbols
from leastfit.values import KINDS, is_of_some_kind, kind_of_value

MOST_INPUTS = 4
MOST_COMPONENTS = 12
MOST_CONSTANTS = 6
MOST_COST = 9


class Task:
    """The kinds of the inputs and of the result, and the parts of programs with their costs."""

    def __init__(self, kinds, result, costs, constants, *, input_cost=1):
        _check_parts(kinds, result, costs, constants, input_cost)
        self._kinds = list(kinds)
        self._result = result
        self._costs = list(costs)
        self._constants = list(constants)
        self._input_cost = input_cost
        self._rank_of = {}
        self._cost_of = {}
        for rank, (symbol, cost) in enumerate(self.costed_symbols()):
            self._rank_of[_key(symbol)] = rank
            self._cost_of[_key(symbol)] = cost

    def kinds(self):
        """Return the list of the input kinds."""
        return list(self._kinds)

    def result(self):
        """Return the kind of the result."""
        return self._result

    def costs(self):
        """Return the list of the components, as tuples (name, cost)."""
        return list(self._costs)

    def constants(self):
        """Return the list of the constants, as tuples (value, cost)."""
        return list(self._constants)

    def input_cost(self):
        """Return the cost of an input."""
        return self._input_cost

    def costed_symbols(self):
        """Return the list of the symbols that programs may have, as tuples (symbol, cost), by ascending ranks."""
        inputs = [(("input", index), self._input_cost) for index in range(len(self._kinds))]
        constants = [(("constant", value), cost) for value, cost in self._constants]
        return inputs + constants + self._costs

    def check(self, program):
        """Return the kind of a program of the task. Raise InvalidProgram."""
        kind = program_kind(self._kinds, program)
        for part, symbol in zip(parts(program), symbols(program)):
            if _key(symbol) not in self._rank_of:
                raise InvalidProgram(part)
        return kind

    def cost(self, program):
        """Return the cost of a program of the task."""
        return sum([self._cost_of[_key(symbol)] for symbol in symbols(program)])

    def ranks(self, program):
        """Return the list of the ranks of the symbols of a program of the task in preorder."""
        return [self._rank_of[_key(symbol)] for symbol in symbols(program)]

    def compare(self, first, second):
        """Return -1, 0 or 1 if the first program comes before, is equal to or comes after the second one."""
        earlier = (self.cost(first), self.ranks(first))
        later = (self.cost(second), self.ranks(second))
        if earlier == later:
            return 0
        return -1 if earlier < later else 1


def _check_parts(kinds, result, costs, constants, input_cost):
    if len(kinds) > MOST_INPUTS or not all([kind in KINDS for kind in kinds]):
        raise InvalidTask("kinds")
    if result not in KINDS:
        raise InvalidTask("result")
    if not _are_components(costs):
        raise InvalidTask("costs")
    if not _are_constants(constants):
        raise InvalidTask("constants")
    if not _is_cost(input_cost):
        raise InvalidTask("input cost")


def _are_components(costs):
    if not 1 <= len(costs) <= MOST_COMPONENTS or not all([_is_priced(pair) for pair in costs]):
        return False
    if not all([is_component(name) for name, cost in costs]):
        return False
    return _are_different([name for name, cost in costs])


def _are_constants(constants):
    if len(constants) > MOST_CONSTANTS or not all([_is_priced(pair) for pair in constants]):
        return False
    if not all([is_of_some_kind(value) for value, cost in constants]):
        return False
    return _are_different([(kind_of_value(value), value) for value, cost in constants])


def _are_different(things):
    return len(set(things)) == len(things)


def _is_priced(pair):
    """Return True if this is a tuple of something and a cost."""
    return isinstance(pair, tuple) and len(pair) == 2 and _is_cost(pair[1])


def _is_cost(cost):
    # For Python, True is an integer.
    return isinstance(cost, int) and not isinstance(cost, bool) and 1 <= cost <= MOST_COST


def _key(symbol):
    """Return what tells the symbol from all others as a key: for Python, 1 and True are the same key."""
    if isinstance(symbol, str) or symbol[0] == "input":
        return symbol
    return ("constant", kind_of_value(symbol[1]), symbol[1])
