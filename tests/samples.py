"""Goals with small tasks, and what the points say of programs, goals and tables, told without any haste."""

import itertools

from enumeration import programs_of
from leastfit.components import argument_kinds, result_kind
from leastfit.errors import InvalidProgram
from leastfit.goals import Goal
from leastfit.meaning import outcomes, run
from leastfit.notation import read_program
from leastfit.tasks import Task

KINDS = ["number", "truth", "text", "list"]


def exactly(thing):
    """What tells a thing from all others, 1 from True too."""
    return repr(thing)


def goal_of(task, examples=(), properties=(), box=None):
    """A goal whose properties are given in their written form. Without a box all of its lists are empty."""
    kinds = task.kinds() + [task.result()]
    read = [read_program(kinds, text) for text in properties]
    return Goal(task, list(examples), read, [[] for _ in task.kinds()] if box is None else box)


def rows_of(goal):
    return list(itertools.product(*goal.box()))


def meets(goal, program, row):
    """Point 63, for each property, and point 64."""
    outcome = run(program, row)
    return outcome is not None and all(run(one, row + (outcome,)) is True for one in goal.properties())


def fits(goal, program):
    """Point 64."""
    if not all(exactly(run(program, row)) == exactly(value) for row, value in goal.examples()):
        return False
    return all(meets(goal, program, row) for row in rows_of(goal))


def fits_clue(goal, program, clue):
    """Point 65."""
    if clue[0] == "example":
        return exactly(run(program, clue[1])) == exactly(clue[2])
    return meets(goal, program, clue[1])


def in_order(task, cost, kind):
    """The list of all programs of a cost and a kind, in the order of point 47."""
    found = [program for its_kind, program in programs_of(task, cost) if its_kind == kind]
    return sorted(found, key=task.ranks)


def least_fitting(goal, most):
    """The first of all programs of at most this cost that fits the goal, or None."""
    task = goal.task()
    for cost in range(1, most + 1):
        for program in in_order(task, cost, task.result()):
            if fits(goal, program):
                return program
    return None


def comes_before(task, first, second):
    return (task.cost(first), task.ranks(first)) < (task.cost(second), task.ranks(second))


def is_closed_table(task, rows, cost, lines):
    """Point 66, word by word. Everything that is looked at has the form of a dict of lists of lines."""
    for kind in KINDS:
        seen = []
        for index, (program, told) in enumerate(lines[kind]):
            try:
                if task.check(program) != kind or task.cost(program) > cost:
                    return False
            except InvalidProgram:
                return False
            if exactly(told) != exactly(outcomes(program, rows)) or exactly(told) in seen:
                return False
            if index and not comes_before(task, lines[kind][index - 1][0], program):
                return False
            seen.append(exactly(told))
    return all(has_line(task, rows, lines, made) for made in to_be_there(task, cost, lines))


def to_be_there(task, cost, lines):
    """The programs of the rules 3 and 4 whose cost is at most the cost."""
    made = [("input", index) for index in range(len(task.kinds()))]
    made += [("constant", value) for value, _ in task.constants()]
    for name, _ in task.costs():
        for chosen in itertools.product(*[lines[kind] for kind in argument_kinds(name)]):
            made.append((name, *[program for program, _ in chosen]))
    return [program for program in made if task.cost(program) <= cost]


def has_line(task, rows, lines, made):
    kind = result_kind(made[0]) if made[0] not in ("input", "constant") else task.check(made)
    wanted = exactly(outcomes(made, rows))
    return any(exactly(told) == wanted and not comes_before(task, made, program) for program, told in lines[kind])


def all_lines(task, rows, cost):
    """The first of all programs of at most this cost with each of the outcomes, as a dict of lists of lines."""
    lines = {kind: [] for kind in KINDS}
    for kind in KINDS:
        seen = set()
        for price in range(1, cost + 1):
            for program in in_order(task, price, kind):
                found = outcomes(program, rows)
                if found not in seen:
                    seen.add(found)
                    lines[kind].append((program, found))
    return lines


NUMBERS = Task(["number"], "number", [("add", 1), ("neg", 1)], [(1, 1)])
PAIRS = Task(["number", "number"], "number", [("max", 2), ("sub", 1)], [(0, 1)])
ORDER = Task(["number", "number"], "truth", [("less", 1), ("negate", 1), ("either", 2)], [(True, 2)])
TEXTS = Task(["text"], "text", [("concat", 1), ("reverse_text", 2), ("start", 1)], [("b", 1), (1, 2)])
LISTS = Task(["list"], "list", [("rest", 1), ("sort", 1), ("append", 2), ("first", 1)], [(3, 2)])
CHOICES = Task(["truth", "number"], "number", [("choose_number", 1), ("neg", 1), ("is_even", 1)], [(0, 1)])
CONSTANTS = Task([], "number", [("mul", 1), ("sub", 2)], [(3, 1), (True, 1), (1, 2)])

NOT_LESS = ["(negate (less x2 x0))", "(negate (less x2 x1))"]

# Goals, each with a cost up to which all programs of its task can be listed.
GOALS = [
    (goal_of(NUMBERS, [((2,), 3), ((0,), 1)]), 7),
    (goal_of(NUMBERS, [((2,), 3), ((0,), 1)], ["(less x0 x1)"], [[-5, 0, 1000000]]), 7),
    (goal_of(NUMBERS, [((2,), 5), ((0,), -1)]), 7),
    (goal_of(NUMBERS, [((2,), 3), ((2,), 4)]), 7),
    (goal_of(NUMBERS), 6),
    (goal_of(NUMBERS, [], ["(equal x1 (add x0 (add x0 1)))"], [[0, 3, -2]]), 7),
    (goal_of(NUMBERS, [], ["(equal (divide 6 x1) 2)"], [[0, 3]]), 7),
    (goal_of(PAIRS, [], NOT_LESS, [[-1, 0, 2], [-2, 1]]), 7),
    (goal_of(PAIRS, [((1, 5), 4)], ["(less -7 x2)"], [[3, 5], [0, 10]]), 7),
    (goal_of(PAIRS, [((1, 5), 4)], ["(less -7 x2)"], [[3, 5], []]), 7),
    (goal_of(PAIRS, [((1, 5), -1), ((3, 5), -3), ((1, 5), -1)], [], [[1], [2]]), 7),
    (goal_of(ORDER, [((1, 2), False), ((2, 1), True), ((1, 1), True)]), 6),
    (goal_of(ORDER, [((1, 2), True)], ["(either x2 (less x1 x0))"], [[0, 4], [1, 2]]), 6),
    (goal_of(TEXTS, [(("ab",), "bab"), (("",), "b")]), 6),
    (goal_of(TEXTS, [], ["(equal (length x1) 3)", "(contains x1 x0)"], [["ab", "b"]]), 7),
    (goal_of(LISTS, [(((4, 2),), (2, 4)), (((7,),), (7,))]), 7),
    (goal_of(LISTS, [], ["(same_list x1 (rest x0))"], [[(1, 2), (), (5,)]]), 7),
    (goal_of(CHOICES, [((True, 4), 4), ((False, 4), -4)], ["(negate (equal x2 1))"], [[True], [1, 3]]), 6),
    (goal_of(CHOICES, [((True, 4), 0), ((False, 4), 4)]), 7),
    (goal_of(CONSTANTS, [((), 9)]), 7),
    (goal_of(CONSTANTS, [], ["(less 20 x0)"]), 7),
    (goal_of(CONSTANTS, [((), 8), ((), 7)]), 7),
]
