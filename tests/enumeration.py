"""All programs of a task, for tests that look at each of them."""

import functools
import itertools

from leastfit.components import argument_kinds, result_kind


@functools.lru_cache(maxsize=None)
def programs_of(task, cost):
    """The list of all programs of a cost, as tuples (kind, program)."""
    found = []
    if task.input_cost() == cost:
        found += [(kind, ("input", index)) for index, kind in enumerate(task.kinds())]
    for value, price in task.constants():
        if price == cost:
            found.append((task.check(("constant", value)), ("constant", value)))
    for name, price in task.costs():
        kinds = argument_kinds(name)
        for costs in itertools.product(range(1, cost), repeat=len(kinds)):
            if sum(costs) + price == cost:
                choices = [[program for kind, program in programs_of(task, costs[k]) if kind == kinds[k]]
                           for k in range(len(kinds))]
                found += [(result_kind(name), (name, *chosen)) for chosen in itertools.product(*choices)]
    return found
