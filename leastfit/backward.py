"""Working backward: which arguments give a result, and which calls give outcomes."""

from leastfit.candidates import splits
from leastfit.components import apply, argument_kinds, result_kind
from leastfit.values import is_value


def _less(result, other):
    return result - other


def _more(result, other):
    return result + other


def _what_is_left(result, other):
    return other - result


def _front(result, back):
    return result[:len(result) - len(back)]


def _back(result, front):
    return result[len(front):]


def _all_but_last(result, _):
    return result[:-1]


def _all_but_first(result, _):
    return result[1:]


def _last(result, _):
    return result[-1] if result else None


def _first(result, _):
    return result[0] if result else None


def _negative(result):
    return -result


def _half(result):
    return result // 2


def _reversed(result):
    return result[::-1]


def _differences(result):
    earlier = (0, *result)
    return tuple([number - before for number, before in zip(result, earlier)])


def _number_of_text(result):
    return apply("text_number", [result])


def _text_of_number(result):
    return apply("number_text", [result])


def _each_less(result, number):
    return tuple([total - number for total in result])


# For each component and index of an argument what tells the only value that can be the solution, or None, from the
# result and the other argument. Whether it is the solution is to be looked at then.
GUESSES = {
    ("add", 0): _less,
    ("add", 1): _less,
    ("add_each", 0): _each_less,
    ("append", 0): _all_but_last,
    ("append", 1): _last,
    ("concat", 0): _front,
    ("concat", 1): _back,
    ("double", 0): _half,
    ("join", 0): _front,
    ("join", 1): _back,
    ("neg", 0): _negative,
    ("number_text", 0): _number_of_text,
    ("prepend", 0): _first,
    ("prepend", 1): _all_but_first,
    ("reverse", 0): _reversed,
    ("reverse_text", 0): _reversed,
    ("running", 0): _differences,
    ("sub", 0): _more,
    ("sub", 1): _what_is_left,
    ("text_number", 0): _text_of_number,
}


class WantedCalls:
    """The calls of a component that have the wanted outcomes, with representatives of these costs as arguments."""

    def __init__(self, table, name, costs, wanted):
        self._table = table
        self._name = name
        self._kinds = argument_kinds(name)
        self._costs = costs
        self._wanted = wanted

    def first(self, chosen):
        """Return the first such call whose first arguments are those of the chosen classes, or None."""
        index = len(chosen)
        if index == len(self._kinds) - 1:
            return self._first_with_last(chosen)
        # The classes of one cost are in the order of their programs, and so are the calls that are made of them.
        for choice in self._table.classes(self._kinds[index], self._costs[index]):
            found = self.first([*chosen, choice])
            if found is not None:
                return found
        return None

    def _first_with_last(self, chosen):
        if None not in self._wanted and (self._name, len(chosen)) in GUESSES:
            return self._with_solution(chosen)
        for choice in self._table.classes(self._kinds[-1], self._costs[-1]):
            if self._gives_wanted([*chosen, choice]):
                return self._call([*chosen, choice])
        return None

    def _with_solution(self, chosen):
        """Return the call with the only outcomes of the last argument that give the wanted ones, or None."""
        needed = []
        for index, result in enumerate(self._wanted):
            others = [row_outcomes[index] for program, row_outcomes in chosen]
            found = solutions(self._name, len(chosen), others, result)
            if not found:
                return None
            needed.append(found[0])
        last = self._table.find(self._kinds[-1], tuple(needed))
        if last is None or last[0] != self._costs[-1]:
            return None
        return self._call([*chosen, (last[1], tuple(needed))])

    def _gives_wanted(self, chosen):
        for index, result in enumerate(self._wanted):
            if apply(self._name, [row_outcomes[index] for program, row_outcomes in chosen]) != result:
                return False
        return True

    def _call(self, chosen):
        return (self._name, *[program for program, row_outcomes in chosen])


def solutions(name, index, others, result):
    """Return the list of the solutions of a demand, or None if such demands are not answered. Raise NotFound."""
    kind = argument_kinds(name)[index]
    if kind == "truth":
        guesses = [False, True]
    elif (name, index) not in GUESSES:
        return None
    elif None in others:
        # No component of the guesses gives a result then.
        guesses = []
    else:
        guess = GUESSES[(name, index)]
        guesses = [guess(result, *others)]
    return [value for value in guesses if is_value(kind, value) and _applied(name, index, others, value) == result]


def reach(table, kind, wanted):
    """Return the first program of the next level's cost that is a call with this kind and these outcomes, or None."""
    if len(wanted) != len(table.rows()) or not all(value is None or is_value(kind, value) for value in wanted):
        return None
    task = table.task()
    for name, price in task.costs():
        if result_kind(name) == kind:
            found = _first_calls(table, name, table.level() + 1 - price, wanted)
            if found:
                # Of programs of the same cost, those of an earlier component come first.
                return min(found, key=lambda program: task.ranks(program))
    return None


def _first_calls(table, name, cost, wanted):
    """Return the list of the first calls of a component for each way to share this cost among its arguments."""
    many = len(argument_kinds(name))
    firsts = [WantedCalls(table, name, costs, wanted).first([]) for costs in splits(cost, many)]
    return [program for program in firsts if program is not None]


def _applied(name, index, others, value):
    return apply(name, [*others[:index], value, *others[index:]])
