"""Working backward: solutions of demands, and the reach of a table (points 85 to 87)."""

import itertools
import random
import unittest

from leastfit.backward import reach, solutions
from leastfit.components import apply, argument_kinds, names, result_kind
from leastfit.errors import LeastError, NotFound
from leastfit.meaning import outcomes
from leastfit.tables import Table
from leastfit.tasks import Task
from leastfit.values import compare_values, is_value
from samples import CHOICES, CONSTANTS, GOALS, KINDS, LISTS, NUMBERS, ORDER, TEXTS, exactly

X0, X1 = ("input", 0), ("input", 1)

# By component, the indexes of the arguments for which demands are answered.
ANSWERED = {
    "add": [0, 1], "sub": [0, 1], "concat": [0, 1], "join": [0, 1], "append": [0, 1], "prepend": [0, 1],
    "neg": [0], "double": [0], "reverse": [0], "reverse_text": [0], "running": [0], "number_text": [0],
    "text_number": [0], "add_each": [0], "both": [0, 1], "either": [0, 1], "negate": [0], "choose_list": [0],
    "choose_number": [0], "choose_text": [0],
}

VALUES = {
    "number": [*range(-9, 10), 10, 100, 499999, 500000, 500001, -500000, 999999, 1000000, -999999, -1000000],
    "truth": [False, True],
    "text": ["".join(signs) for many in range(4) for signs in itertools.product(" 01ab", repeat=many)] +
            ["a" * 30, "ab" * 15, "b" + "a" * 29, "1000000", "1000001", "999999", "01", "-1"[1:], "a" * 15, "a" * 16],
    "list": [numbers for many in range(4) for numbers in itertools.product((-1, 0, 1, 2), repeat=many)] +
            [(1000000, -1000000), (1000000,), (0,) * 12, (1,) * 12, (1,) * 11, (1,) * 6, (1, 2, 3, 4), (-1000000, 0)],
}


class SolutionsTest(unittest.TestCase):

    def test_demands_that_are_not_answered(self):
        for name in names():
            for index, kind in enumerate(argument_kinds(name)):
                if index in ANSWERED.get(name, []):
                    continue
                self.assertNotEqual(kind, "truth")
                for result in VALUES[result_kind(name)][:8]:
                    others = [VALUES[other][-1] for other in argument_kinds(name)]
                    del others[index]
                    self.assertIsNone(solutions(name, index, others, result), (name, index))

    def test_demands_that_are_answered(self):
        chance = random.Random(1)
        for name, indexes in ANSWERED.items():
            for index in indexes:
                many = []
                for _ in range(300):
                    arguments = [chance.choice(VALUES[kind]) for kind in argument_kinds(name)]
                    result = apply(name, arguments)
                    if result is None or chance.random() < 0.4:
                        result = chance.choice(VALUES[result_kind(name)])
                    del arguments[index]
                    many.append(self.check(name, index, arguments, result))
                self.assertIn(1, many, (name, index))
                if name not in ("neg", "negate", "reverse", "reverse_text", "running"):
                    self.assertIn(0, many, (name, index))

    def check(self, name, index, others, result):
        kind = argument_kinds(name)[index]
        found = solutions(name, index, others, result)
        self.assertIsInstance(found, list)
        for value in found:
            self.assertTrue(is_value(kind, value))
            made = apply(name, [*others[:index], value, *others[index:]])
            self.assertEqual(exactly(made), exactly(result), (name, index, others))
        for first, second in itertools.pairwise(found):
            self.assertEqual(compare_values(first, second), -1)
        self.assertLessEqual(len(found), 2 if kind == "truth" else 1)
        for value in VALUES[kind]:
            made = apply(name, [*others[:index], value, *others[index:]])
            self.assertEqual(made == result, value in found, (name, index, others, value))
        return len(found)

    def test_all_small_demands(self):
        few = {"number": [-2, -1, 0, 1, 2], "truth": [False, True], "text": ["", "a", "b", "ab", "0", "10"],
               "list": [(), (0,), (1,), (0, 1), (1, 0)]}
        for name, indexes in ANSWERED.items():
            for index in indexes:
                kinds = argument_kinds(name)
                others = [few[kind] for kind in kinds[:index] + kinds[index + 1:]]
                for chosen in itertools.product(*others, few[result_kind(name)]):
                    self.check(name, index, list(chosen[:-1]), chosen[-1])

    def test_truths(self):
        for name, index, others, result, expected in (
            ("both", 0, [True], True, [True]), ("both", 0, [True], False, [False]), ("both", 1, [False], True, []),
            ("both", 1, [False], False, [False, True]), ("either", 0, [True], True, [False, True]),
            ("either", 1, [True], False, []), ("either", 0, [False], True, [True]), ("negate", 0, [], True, [False]),
            ("negate", 0, [], False, [True]), ("choose_number", 0, [1, 2], 1, [True]),
            ("choose_number", 0, [1, 2], 2, [False]), ("choose_number", 0, [3, 3], 3, [False, True]),
            ("choose_number", 0, [1, 2], 3, []), ("choose_text", 0, ["a", "a"], "a", [False, True]),
            ("choose_text", 0, ["", "a"], "a", [False]), ("choose_list", 0, [(), (1,)], (), [True]),
            ("choose_list", 0, [(1,), (1,)], (1,), [False, True]), ("choose_list", 0, [(), ()], (1,), []),
        ):
            self.assertEqual(exactly(solutions(name, index, others, result)), exactly(expected), (name, others, result))

    def test_numbers(self):
        for name, index, others, result, expected in (
            ("add", 0, [3], 5, [2]), ("add", 1, [3], 5, [2]), ("add", 0, [-1000000], 0, [1000000]),
            ("add", 0, [-1000000], 1, []), ("add", 1, [1000000], -1, []), ("sub", 0, [3], 5, [8]),
            ("sub", 1, [3], 5, [-2]), ("sub", 0, [1], 1000000, []), ("sub", 1, [-1], 1000000, []),
            ("sub", 1, [0], 1000000, [-1000000]), ("neg", 0, [], 5, [-5]), ("neg", 0, [], 0, [0]),
            ("double", 0, [], 6, [3]), ("double", 0, [], 7, []), ("double", 0, [], -7, []), ("double", 0, [], -6, [-3]),
            ("text_number", 0, [], 70, ["70"]), ("text_number", 0, [], 0, ["0"]), ("text_number", 0, [], -1, []),
            ("text_number", 0, [], 1000000, ["1000000"]),
        ):
            self.assertEqual(exactly(solutions(name, index, others, result)), exactly(expected), (name, others, result))

    def test_texts(self):
        for name, index, others, result, expected in (
            ("concat", 0, ["c"], "abc", ["ab"]), ("concat", 0, ["b"], "abc", []), ("concat", 1, ["a"], "abc", ["bc"]),
            ("concat", 1, ["b"], "abc", []), ("concat", 0, [""], "abc", ["abc"]), ("concat", 1, ["abc"], "abc", [""]),
            ("concat", 0, ["abcd"], "bcd", []), ("concat", 1, ["abc"], "ab", []), ("concat", 0, ["aa"], "a", []),
            ("concat", 0, ["bb"], "b", []), ("concat", 0, [""], "", [""]), ("reverse_text", 0, [], "ab ", [" ba"]),
            ("number_text", 0, [], "70", [70]), ("number_text", 0, [], "0", [0]), ("number_text", 0, [], "07", []),
            ("number_text", 0, [], "", []), ("number_text", 0, [], "00", []), ("number_text", 0, [], "a", []),
            ("number_text", 0, [], "1000000", [1000000]), ("number_text", 0, [], "1000001", []),
            ("number_text", 0, [], "7 ", []), ("number_text", 0, [], "9" * 30, []),
        ):
            self.assertEqual(exactly(solutions(name, index, others, result)), exactly(expected), (name, others, result))

    def test_lists(self):
        for name, index, others, result, expected in (
            ("join", 0, [(3,)], (1, 2, 3), [(1, 2)]), ("join", 0, [(2,)], (1, 2, 3), []),
            ("join", 1, [(1,)], (1, 2), [(2,)]),
            ("join", 1, [(1, 2, 3)], (1, 2), []), ("join", 0, [(1, 1)], (1,), []), ("join", 1, [()], (), [()]),
            ("append", 0, [3], (1, 2, 3), [(1, 2)]), ("append", 0, [2], (1, 2, 3), []), ("append", 0, [2], (), []),
            ("append", 1, [(1, 2)], (1, 2, 3), [3]), ("append", 1, [(1, 1)], (1, 2, 3), []),
            ("append", 1, [()], (), []),
            ("append", 1, [()], (5,), [5]), ("append", 0, [5], (5,), [()]), ("append", 1, [(1, 2, 3)], (1, 2, 3), []),
            ("prepend", 0, [(2, 3)], (1, 2, 3), [1]), ("prepend", 0, [(2,)], (1, 2, 3), []),
            ("prepend", 0, [()], (), []),
            ("prepend", 1, [1], (1, 2, 3), [(2, 3)]), ("prepend", 1, [2], (1, 2, 3), []), ("prepend", 1, [2], (), []),
            ("reverse", 0, [], (1, 2, 3), [(3, 2, 1)]), ("reverse", 0, [], (), [()]),
            ("running", 0, [], (1, 3, 6), [(1, 2, 3)]),
            ("running", 0, [], (), [()]), ("running", 0, [], (-5,), [(-5,)]),
            ("running", 0, [], (-1000000, 1000000), []),
            ("running", 0, [], (-1000000, 0), [(-1000000, 1000000)]), ("add_each", 0, [2], (1, 2, 3), [(-1, 0, 1)]),
            ("add_each", 0, [-1000000], (0, 1), []), ("add_each", 0, [7], (), [()]),
            ("add_each", 0, [0], (4, 4), [(4, 4)]),
        ):
            self.assertEqual(exactly(solutions(name, index, others, result)), exactly(expected), (name, others, result))

    def test_names_that_are_not_found(self):
        for name in ("", "wish", "input", "constant", "Add", "add ", "addeach", "truth"):
            for index in (0, 1, 5):
                with self.assertRaises(NotFound) as caught:
                    solutions(name, index, [1], 2)
                self.assertEqual(caught.exception.name, name)
        self.assertTrue(issubclass(NotFound, LeastError))

    def test_arguments_are_not_modified(self):
        for name, indexes in ANSWERED.items():
            kinds = argument_kinds(name)
            for index in indexes:
                others = [VALUES[kind][1] for kind in kinds[:index] + kinds[index + 1:]]
                before = list(others)
                solutions(name, index, others, VALUES[result_kind(name)][1]).append(None)
                self.assertEqual(others, before)
                self.assertNotIn(None, solutions(name, index, others, VALUES[result_kind(name)][1]))


def calls(table):
    """By kind and outcomes, the first program of the next cost that is a component applied to representatives."""
    task, cost = table.task(), table.level() + 1
    found = {}
    for name, price in task.costs():
        kinds = argument_kinds(name)
        for costs in itertools.product(range(1, cost), repeat=len(kinds)):
            if sum(costs) + price == cost:
                pools = [table.classes(kind, each) for kind, each in zip(kinds, costs)]
                for chosen in itertools.product(*pools):
                    program = (name, *[one for one, _ in chosen])
                    key = exactly((result_kind(name), outcomes(program, table.rows())))
                    if key not in found or task.ranks(program) < task.ranks(found[key][2]):
                        found[key] = (result_kind(name), outcomes(program, table.rows()), program)
    return found


ALL_KINDS = {"number": 2, "truth": True, "text": "1", "list": (3, 1)}
ALL_ROWS = [(2, True, "ab", (3, 1)), (-1, False, "", ()), (5, True, "1", (7,))]

# Tables for the reach: a task, rows, and a level up to which the reach is looked for.
ALL_CONSTANTS = [(ALL_KINDS[kind], 1) for kind in KINDS]
TABLES = [(Task(KINDS, "number", [(name, 1)], ALL_CONSTANTS), ALL_ROWS, 3) for name in names()]
TABLES += [
    (NUMBERS, [(2,), (-5,), (0,)], 6), (NUMBERS, [], 4), (NUMBERS, [(3,)], 6), (ORDER, [(1, 2), (2, 1), (3, 3)], 6),
    (TEXTS, [("ab",), ("",)], 6), (LISTS, [((1, 2, 3),), ((),)], 8), (CHOICES, [(True, 3), (False, -1)], 6),
    (CONSTANTS, [()], 6), (CONSTANTS, [(), ()], 5),
    # Calls that come later in the order of the work may be the earlier programs.
    (Task(["number"], "number", [("mul", 1), ("add", 1), ("neg", 1)], [(3, 2), (2, 1), (9, 3), (6, 4)]), [(1,)], 7),
    (Task(["number", "number"], "number", [("add", 1), ("neg", 1)], [(8, 1), (9, 1)], input_cost=2), [(5, -2)], 7),
    (Task(["number"], "number", [("sub", 2), ("divide", 1), ("add", 3)], [(0, 1), (7, 2)]), [(4,), (0,)], 7),
    (Task(["list", "number"], "list", [("append", 1), ("join", 2), ("first", 1)], []), [((1,), 2), ((), 3)], 7),
    (Task(["truth", "text"], "text", [("choose_text", 2), ("concat", 1), ("same_text", 1)], [("a", 3)]),
     [(True, "a"), (False, "b")], 7),
]


class ReachTest(unittest.TestCase):

    def each_table(self):
        for task, rows, most in TABLES:
            table = Table(task, rows)
            while table.level() <= most and table.count() < 150:
                yield table
                table.grow()

    def test_first_calls(self):
        several = 0
        for table in self.each_table():
            for kind, wanted, program in calls(table).values():
                self.assertEqual(exactly(reach(table, kind, wanted)), exactly(program))
                several += table.find(kind, wanted) is not None
        # Outcomes for which the table has a class already.
        self.assertGreater(several, 300)

    def test_outcomes_that_are_not_reached(self):
        for table in self.each_table():
            found = calls(table)
            for kind in KINDS:
                for value in (None, *VALUES[kind][:12], (3, 1), (1,)):
                    if value is None or is_value(kind, value):
                        wanted = (value,) * len(table.rows())
                        if exactly((kind, wanted)) not in found:
                            self.assertIsNone(reach(table, kind, wanted))

    def test_the_next_level(self):
        # Point 87: what the next level adds, unless it is an input or a constant.
        for table in self.each_table():
            task, cost = table.task(), table.level() + 1
            later = Table(task, table.rows())
            while later.level() < cost:
                later.grow()
            for kind in KINDS:
                for program, wanted in later.classes(kind, cost):
                    self.assertIsNone(table.find(kind, wanted))
                    if program[0] not in ("input", "constant"):
                        self.assertEqual(exactly(reach(table, kind, wanted)), exactly(program))

    def test_an_input_or_constant_that_comes_before(self):
        task = Task([], "number", [("add", 1)], [(1, 1), (2, 3)])
        table = Table(task, [()])
        table.grow()
        table.grow()
        self.assertEqual(reach(table, "number", (2,)), ("add", ("constant", 1), ("constant", 1)))
        table.grow()
        self.assertEqual(table.find("number", (2,)), (3, ("constant", 2)))
        self.assertIsNone(reach(table, "number", (4,)))
        self.assertIsNone(reach(table, "number", (2,)))
        table.grow()
        self.assertEqual(reach(table, "number", (3,)), ("add", ("constant", 1), ("constant", 2)))

    def test_level_zero(self):
        for task, rows, _ in TABLES:
            for kind in KINDS:
                for value in (None, *VALUES[kind][:4]):
                    self.assertIsNone(reach(Table(task, rows), kind, (value,) * len(rows)))

    def test_wrong_outcomes(self):
        table = Table(NUMBERS, [(1,), (2,)])
        table.grow()
        table.grow()
        self.assertEqual(reach(table, "number", (2, 3)), ("add", X0, ("constant", 1)))
        for wanted in ((), (2,), (2, 3, 4), (2, 3, 2)):
            self.assertIsNone(reach(table, "number", wanted))
        for kind in ("truth", "text", "list"):
            self.assertIsNone(reach(table, kind, (2, 3)))
            self.assertIsNone(reach(table, kind, (None, None)))

    def test_one_is_not_true(self):
        table = Table(Task([], "number", [("neg", 1), ("negate", 1)], [(-1, 1), (False, 1), (0, 1)]), [()])
        table.grow()
        self.assertEqual(reach(table, "number", (1,)), ("neg", ("constant", -1)))
        self.assertEqual(reach(table, "truth", (True,)), ("negate", ("constant", False)))
        for kind, wanted in (("number", (True,)), ("truth", (1,)), ("number", (False,)), ("truth", (0,))):
            self.assertIsNone(reach(table, kind, wanted))

    def test_level_29(self):
        task = Task([], "number", [("double", 9)], [(7, 3), (5, 2)])
        table = Table(task, [()])
        while table.level() < 29:
            table.grow()
        self.assertEqual(reach(table, "number", (56,)), ("double", ("double", ("double", ("constant", 7)))))
        self.assertIsNone(reach(table, "number", (40,)))
        self.assertEqual(table.level(), 29)

    def test_table_is_not_changed(self):
        for task, rows, most in TABLES[::5]:
            for fuel in (0, 1, 7, 40):
                table, untouched = Table(task, rows), Table(task, rows)
                for _ in range(2):
                    table.grow()
                    untouched.grow()
                self.assertEqual(table.work(fuel), untouched.work(fuel))
                for kind, wanted, _ in list(calls(table).values())[:20]:
                    reach(table, kind, wanted)
                self.same(table, untouched)
                for _ in range(5):
                    self.assertEqual(table.work(3), untouched.work(3))
                    self.same(table, untouched)

    def same(self, table, untouched):
        self.assertEqual((table.level(), table.count()), (untouched.level(), untouched.count()))
        for kind in KINDS:
            for cost in range(1, table.level() + 1):
                self.assertEqual(exactly(table.classes(kind, cost)), exactly(untouched.classes(kind, cost)))

    def test_many_classes(self):
        task = Task(["list"], "list", [("join", 1), ("append", 1)], [(number, 1) for number in range(6)])
        table = Table(task, [((),)])
        while table.level() < 12:
            table.grow()
        self.assertGreater(table.count(), 9000)
        # One append for each number, as a join of lists of six numbers costs more.
        program = X0
        for number in (0, 5, 3, 2, 2, 1):
            program = ("append", program, ("constant", number))
        self.assertEqual(reach(table, "list", ((0, 5, 3, 2, 2, 1),)), program)
        for wanted in ((6,), (0, 5, 3, 2, 2, 6), (0, 5, 3, 2, 2, 1, 1)):
            self.assertIsNone(reach(table, "list", (wanted,)))

    def test_samples(self):
        # Each goal's task, with the rows of its examples.
        for goal, _ in GOALS:
            table = Table(goal.task(), [row for row, _ in goal.examples()])
            for _ in range(4):
                table.grow()
            for kind, wanted, program in calls(table).values():
                self.assertEqual(exactly(reach(table, kind, wanted)), exactly(program))


if __name__ == "__main__":
    unittest.main()
