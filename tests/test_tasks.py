"""Tasks: their parts and limits, and the costs and the order of their programs (points 45 to 48)."""

import itertools
import unittest

from enumeration import programs_of
from leastfit.components import names
from leastfit.errors import InvalidProgram, InvalidTask, LeastError
from leastfit.notation import read_program
from leastfit.programs import parts
from leastfit.tasks import Task

X0, X1, X2, X3 = [("input", k) for k in range(4)]
COSTS = [("add", 1), ("neg", 2)]
CONSTANTS = [(1, 1), ("a", 2)]


def constant(value):
    return ("constant", value)


def exactly(thing):
    """What tells a value from all others, 1 from True too."""
    return repr(thing)


class PartsTest(unittest.TestCase):

    def refuse(self, reason, kinds=(), result="number", costs=COSTS, constants=(), **more):
        with self.subTest(reason, kinds=kinds, result=result, costs=costs, constants=constants, **more):
            with self.assertRaises(InvalidTask) as caught:
                Task(list(kinds), result, list(costs), list(constants), **more)
            self.assertEqual(caught.exception.reason, reason)

    def accept(self, kinds=(), result="number", costs=COSTS, constants=(), **more):
        with self.subTest(kinds=kinds, result=result, costs=costs, constants=constants, **more):
            task = Task(list(kinds), result, list(costs), list(constants), **more)
            self.assertEqual(task.kinds(), list(kinds))
            self.assertEqual(task.result(), result)
            self.assertEqual(task.costs(), list(costs))
            self.assertEqual(exactly(task.constants()), exactly(list(constants)))
            self.assertEqual(task.input_cost(), more.get("input_cost", 1))

    def test_kinds(self):
        for many in range(5):
            self.accept(["number"] * many)
        self.accept(["list", "text", "truth", "number"])
        self.refuse("kinds", ["number"] * 5)
        self.refuse("kinds", ["number"] * 40)
        for wrong in ("", "Number", "numbers", "integer", "constant", "input"):
            self.refuse("kinds", [wrong])
            self.refuse("kinds", ["number", "text", "list", wrong])

    def test_result(self):
        for kind in ("number", "truth", "text", "list"):
            self.accept(result=kind)
        for wrong in ("", "Number", "tuple", "add"):
            self.refuse("result", result=wrong)

    def test_number_of_components(self):
        for many in (1, 2, 11, 12):
            self.accept(costs=[(name, 1) for name in names()[:many]])
        self.refuse("costs", costs=[])
        for many in (13, 14, len(names())):
            self.refuse("costs", costs=[(name, 1) for name in names()[:many]])

    def test_every_component(self):
        for name in names():
            self.accept(costs=[(name, 3)])

    def test_names_of_components(self):
        for wrong in ("", "plus", "Add", "choose", "input", "constant", "add "):
            self.refuse("costs", costs=[(wrong, 1)])
            self.refuse("costs", costs=[("add", 1), ("neg", 1), (wrong, 1)])

    def test_a_component_twice(self):
        self.refuse("costs", costs=[("add", 1), ("add", 1)])
        self.refuse("costs", costs=[("add", 1), ("neg", 1), ("add", 2)])

    def test_costs_of_components(self):
        for cost in (1, 2, 8, 9):
            self.accept(costs=[("add", cost)])
            self.accept(costs=[("neg", 1), ("add", cost)])
        for wrong in (0, 10, -1, 100, True, False):
            self.refuse("costs", costs=[("add", wrong)])
            self.refuse("costs", costs=[("neg", 1), ("add", wrong)])

    def test_number_of_constants(self):
        for many in range(7):
            self.accept(constants=[(value, 1) for value in range(many)])
        for many in (7, 8, 20):
            self.refuse("constants", constants=[(value, 1) for value in range(many)])

    def test_values_of_constants(self):
        for value in (0, -1000000, 1000000, True, False, "", "z" * 30, (), (1000000,) * 12):
            self.accept(constants=[(value, 1)])
        for wrong in (None, 1000001, -1000001, "A", "a" * 31, "a\n", (0,) * 13, (True,), (None,), ((),), [], [1]):
            self.refuse("constants", constants=[(wrong, 1)])
            self.refuse("constants", constants=[(1, 1), (wrong, 1)])

    def test_a_constant_twice(self):
        for value in (0, 1, True, False, "", "a", (), (1, 2)):
            self.refuse("constants", constants=[(value, 1), (value, 1)])
            self.refuse("constants", constants=[(value, 1), (7, 1), (value, 2)])

    def test_equal_for_python_but_of_other_kinds(self):
        self.accept(constants=[(True, 1), (1, 1), (False, 2), (0, 2), ((1,), 1), ("1", 1)])
        self.accept(constants=[(0, 1), (False, 1)])

    def test_costs_of_constants(self):
        for cost in (1, 2, 8, 9):
            self.accept(constants=[(5, cost)])
            self.accept(constants=[(4, 1), (5, cost)])
        for wrong in (0, 10, -1, 100, True, False):
            self.refuse("constants", constants=[(5, wrong)])
            self.refuse("constants", constants=[(4, 1), (5, wrong)])

    def test_cost_of_an_input(self):
        for cost in (1, 2, 8, 9):
            self.accept(["number"], input_cost=cost)
            self.accept([], input_cost=cost)
        for wrong in (0, 10, -1, 100, True, False):
            self.refuse("input cost", ["number"], input_cost=wrong)
            self.refuse("input cost", [], input_cost=wrong)

    def test_cost_of_an_input_is_one_if_it_is_not_told(self):
        task = Task(["number"], "number", COSTS, [])
        self.assertEqual(task.input_cost(), 1)
        self.assertEqual(task.cost(X0), 1)

    def test_the_first_wrong_part_is_told(self):
        wrong = {
            "kinds": {"kinds": ["numbers"]}, "result": {"result": "x"}, "costs": {"costs": [("add", 0)]},
            "constants": {"constants": [(None, 1)]}, "input cost": {"input_cost": 10},
        }
        for many in range(1, 6):
            for reasons in itertools.combinations(wrong, many):
                arguments = {}
                for reason in reasons:
                    arguments.update(wrong[reason])
                self.refuse(reasons[0], **arguments)

    def test_limits_of_two_parts_at_once(self):
        self.refuse("kinds", ["number"] * 5, costs=[])
        self.refuse("costs", ["number"] * 4, costs=[], constants=[(k, 1) for k in range(7)])
        self.refuse("constants", constants=[(k, 1) for k in range(7)], input_cost=0)

    def test_error(self):
        self.assertTrue(issubclass(InvalidTask, LeastError))
        self.assertRaises(ValueError, Task, [], "number", [], [])

    def test_lists_that_are_passed_are_copied(self):
        kinds, costs, constants = ["number"], list(COSTS), list(CONSTANTS)
        task = Task(kinds, "number", costs, constants)
        kinds.append("text")
        kinds[0] = "list"
        costs.clear()
        constants[0] = (2, 9)
        self.assertEqual(task.kinds(), ["number"])
        self.assertEqual(task.costs(), COSTS)
        self.assertEqual(task.constants(), CONSTANTS)
        self.assertEqual(task.check(("add", X0, constant(1))), "number")
        self.assertEqual(task.cost(("add", X0, constant(1))), 3)
        self.assertEqual(task.ranks(("add", X0, constant(1))), [3, 0, 1])

    def test_lists_that_are_returned_are_new(self):
        task = Task(["number"], "number", COSTS, CONSTANTS)
        for method in (task.kinds, task.costs, task.constants):
            self.assertIs(type(method()), list)
            before = method()
            method().clear()
            self.assertEqual(method(), before)
            self.assertIsNot(method(), method())
        task.ranks(X0).clear()
        self.assertEqual(task.ranks(X0), [0])

    def test_lists_that_are_passed_are_not_modified(self):
        kinds, costs, constants = ["number"], list(COSTS), list(CONSTANTS)
        Task(kinds, "number", costs, constants)
        self.assertEqual((kinds, costs, constants), (["number"], COSTS, CONSTANTS))
        costs.append(("add", 1))
        self.assertRaises(InvalidTask, Task, kinds, "number", costs, constants)
        self.assertEqual(costs, [*COSTS, ("add", 1)])


class CheckTest(unittest.TestCase):

    def setUp(self):
        self.task = Task(
            ["number", "list"], "number", [("neg", 2), ("add", 1), ("sum", 1), ("less", 1), ("length", 1)],
            [(1, 1), (True, 1), ((1, 2), 1), ("a", 1)],
        )

    def refuse(self, program, part, task=None):
        with self.subTest(program=program):
            with self.assertRaises(InvalidProgram) as caught:
                (task or self.task).check(program)
            self.assertIs(caught.exception.part, part)

    def test_kinds_of_programs(self):
        for text, kind in (
            ("x0", "number"), ("x1", "list"), ("1", "number"), ("true", "truth"), ('"a"', "text"), ("[1 2]", "list"),
            ("(neg x0)", "number"), ("(less x0 (sum x1))", "truth"), ('(add 1 (length "a"))', "number"),
        ):
            self.assertEqual(self.task.check(read_program(["number", "list"], text)), kind)

    def test_an_input_that_the_task_does_not_have(self):
        for part in (("input", 2), ("input", 3), ("input", -1), ("input", True)):
            self.refuse(part, part)
            self.refuse(("add", X0, part), part)
        self.refuse(X0, X0, Task([], "number", COSTS, []))

    def test_a_constant_that_the_task_does_not_have(self):
        for value in (0, 2, False, "", "b", (), (1,), (2, 1), 1000000):
            part = constant(value)
            self.refuse(part, part)
        part = constant(2)
        self.refuse(("add", constant(1), ("neg", part)), part)

    def test_true_is_not_one(self):
        ones = Task([], "number", COSTS, [(1, 1)])
        truths = Task([], "number", COSTS, [(True, 1)])
        one, true = constant(1), constant(True)
        self.assertEqual(ones.check(one), "number")
        self.refuse(true, true, ones)
        self.assertEqual(truths.check(true), "truth")
        self.refuse(one, one, truths)
        self.refuse(("neg", one), one, truths)
        zero, false = constant(0), constant(False)
        self.refuse(false, false, Task([], "number", COSTS, [(0, 1)]))
        self.refuse(zero, zero, Task([], "number", COSTS, [(False, 1)]))

    def test_a_component_that_the_task_does_not_have(self):
        part = ("mul", X0, X0)
        self.refuse(part, part)
        self.refuse(("add", X0, ("neg", part)), part)
        self.refuse(("less", part, ("abs", X0)), part)

    def test_the_first_part_in_preorder(self):
        missing, first, second = ("abs", constant(7)), constant(5), constant(6)
        self.refuse(("add", first, second), first)
        self.refuse(("add", ("neg", second), first), second)
        self.refuse(("add", missing, first), missing)
        self.refuse(("add", first, missing), first)
        self.refuse(missing, missing)

    def test_errors_of_point_32_first(self):
        wrong = ("input", 9)
        self.refuse(("add", constant(5), wrong), wrong)
        self.refuse(("abs", wrong), wrong)
        self.refuse(("add", ("abs", X0), X1), X1)
        part = ("mul", X0)
        self.refuse(("add", constant(5), part), part)
        for part in ((), None, ("plus", X0), ("constant", None), ("constant",), constant(1000001), [], ("neg",)):
            self.refuse(part, part)
            self.refuse(("add", constant(5), part), part)

    def test_limits_of_point_31(self):
        deep, deeper = X0, ("input", 0)
        for _ in range(29):
            deep = ("neg", deep)
        for _ in range(30):
            deeper = ("neg", deeper)
        self.assertEqual(self.task.check(deep), "number")
        self.refuse(deeper, parts(deeper)[-1])
        self.refuse(("add", constant(5), deep), X0)
        wide = X0
        for _ in range(29):
            wide = ("add", X0, wide)
        self.assertEqual(self.task.check(wide), "number")

    def test_nothing_is_modified(self):
        program = ("add", X0, constant(5))
        self.assertRaises(InvalidProgram, self.task.check, program)
        self.assertEqual(program, ("add", X0, constant(5)))
        self.assertEqual(self.task.kinds(), ["number", "list"])


# Tasks whose programs are compared all with all.
SMALL = [
    Task(["number"], "number", [("neg", 1), ("add", 1)], [(1, 1)]),
    Task(["number", "number"], "number", [("sub", 2), ("neg", 1)], [(2, 3), (1, 1)], input_cost=2),
    Task([], "truth", [("both", 1), ("is_even", 2), ("negate", 1)], [(True, 1), (1, 1), (False, 2), (0, 1)]),
    Task(["list", "truth"], "list", [("choose_list", 1), ("rest", 3), ("is_empty", 1)], [((), 2)], input_cost=1),
]


def preorder(program):
    """The symbols of a program, by a way of their own."""
    if program[0] in ("input", "constant"):
        return [program]
    return [program[0]] + [symbol for argument in program[1:] for symbol in preorder(argument)]


def ranked(task, symbol):
    """The rank and the cost of a symbol."""
    inputs, constants = len(task.kinds()), [exactly(constant(value)) for value, _ in task.constants()]
    if symbol[0] == "input":
        return symbol[1], task.input_cost()
    if symbol[0] == "constant":
        place = constants.index(exactly(symbol))
        return inputs + place, task.constants()[place][1]
    place = [name for name, _ in task.costs()].index(symbol)
    return inputs + len(constants) + place, task.costs()[place][1]


def ranks_of(task, program):
    return [ranked(task, symbol)[0] for symbol in preorder(program)]


class OrderTest(unittest.TestCase):

    def test_costs(self):
        task = Task(["number"], "number", [("add", 3), ("neg", 2)], [(1, 4), (True, 9)], input_cost=5)
        for program, cost in (
            (X0, 5), (constant(1), 4), (constant(True), 9), (("neg", X0), 7), (("add", X0, X0), 13),
            (("add", ("neg", constant(1)), ("neg", ("neg", X0))), 18),
        ):
            self.assertEqual(task.cost(program), cost)

    def test_ranks(self):
        task = Task(["number", "truth"], "number", [("sub", 1), ("neg", 1), ("choose_number", 1)], [(1, 1), (True, 1)])
        for program, ranks in (
            (X0, [0]), (X1, [1]), (constant(1), [2]), (constant(True), [3]), (("neg", X0), [5, 0]),
            (("sub", constant(1), X0), [4, 2, 0]),
            (("choose_number", constant(True), ("neg", X0), ("sub", X0, constant(1))), [6, 3, 5, 0, 4, 0, 2]),
        ):
            self.assertEqual(task.ranks(program), ranks)
            self.assertIs(type(task.ranks(program)), list)

    def test_ranks_and_costs_of_all_small_programs(self):
        for task in SMALL:
            for cost in range(1, 7):
                for kind, program in programs_of(task, cost):
                    symbols = [ranked(task, symbol) for symbol in preorder(program)]
                    self.assertEqual(task.ranks(program), [rank for rank, _ in symbols])
                    self.assertEqual(task.cost(program), sum(price for _, price in symbols))
                    self.assertEqual(task.cost(program), cost)
                    self.assertEqual(task.check(program), kind)

    def test_equal_programs(self):
        task = SMALL[0]
        self.assertEqual(task.compare(X0, ("input", 0)), 0)
        self.assertEqual(task.compare(("add", X0, ("neg", X0)), ("add", X0, ("neg", X0))), 0)

    def test_lower_cost_first(self):
        task = Task(["number"], "number", [("neg", 1), ("add", 1)], [(1, 9)])
        for first, second in (
            (X0, constant(1)), (("neg", X0), constant(1)), (X0, ("neg", X0)), (("add", X0, X0), constant(1)),
            (("neg", ("neg", X0)), ("add", X0, constant(1))),
        ):
            self.assertEqual(task.compare(first, second), -1)
            self.assertEqual(task.compare(second, first), 1)

    def test_equal_costs(self):
        task = Task(["number", "number"], "number", [("neg", 1), ("add", 1), ("abs", 1)], [(2, 1), (1, 1), (7, 3)])
        for first, second in (
            # They differ in the first symbol.
            (X0, X1), (X1, constant(2)), (constant(2), constant(1)), (("neg", constant(1)), ("abs", X0)),
            (("neg", ("abs", X1)), ("add", X0, X0)), (("add", constant(1), constant(1)), ("abs", ("neg", X0))),
            # They differ in a later one.
            (("neg", X0), ("neg", X1)), (("add", X0, constant(1)), ("add", X1, X0)),
            (("add", X0, ("abs", X0)), ("add", ("neg", X0), X0)),
            (("add", X1, constant(2)), ("add", X1, constant(1))),
            (("neg", ("neg", ("add", X0, X0))), ("neg", ("neg", ("add", X0, X1)))),
            # They differ in the number of symbols.
            (constant(7), ("neg", ("neg", X0))), (constant(7), ("add", X0, X0)),
            (("neg", constant(7)), ("neg", ("add", X0, X0))),
            (("add", constant(7), X0), ("add", ("neg", ("neg", X0)), X0)),
        ):
            self.assertEqual(task.cost(first), task.cost(second))
            self.assertEqual(task.compare(first, second), -1)
            self.assertEqual(task.compare(second, first), 1)

    def test_true_and_one(self):
        task = Task([], "number", [("neg", 1)], [(True, 1), (1, 1), (0, 1), (False, 1)])
        ordered = [constant(True), constant(1), constant(0), constant(False)]
        for first, second in itertools.product(range(4), repeat=2):
            self.assertEqual(task.compare(ordered[first], ordered[second]), (first > second) - (first < second))

    def test_programs_of_other_kinds_are_compared_too(self):
        task = SMALL[3]
        self.assertEqual(task.compare(X0, X1), -1)
        self.assertEqual(task.compare(("is_empty", X0), X1), 1)

    def test_all_small_programs(self):
        for task in SMALL:
            ordered = []
            for cost in range(1, 5):
                programs = [program for _, program in programs_of(task, cost)]
                ordered += sorted(programs, key=lambda program: ranks_of(task, program))
            ordered = ordered[:90]
            for first, second in itertools.product(range(len(ordered)), repeat=2):
                expected = (first > second) - (first < second)
                self.assertEqual(task.compare(ordered[first], ordered[second]), expected)

    def replaced(self, program, place, part):
        """The program with another part at a place in preorder, by the number of the place."""
        def copy(old):
            nonlocal place
            place -= 1
            if place == -1:
                return part
            if old[0] in ("input", "constant"):
                return old
            return (old[0], *[copy(argument) for argument in old[1:]])
        return copy(program)

    def test_an_earlier_part_makes_an_earlier_program(self):
        for task in SMALL:
            small = [pair for cost in range(1, 4) for pair in programs_of(task, cost)][:30]
            for cost in (3, 4, 5):
                for _, program in programs_of(task, cost)[:40]:
                    for place, part in enumerate(parts(program)):
                        for kind, other in small:
                            if kind != task.check(part):
                                continue
                            whole = self.replaced(program, place, other)
                            self.assertEqual(task.compare(whole, program), task.compare(other, part))

    def test_programs_are_not_modified(self):
        task = SMALL[0]
        first, second = ("add", X0, constant(1)), ("add", constant(1), X0)
        before = repr((first, second))
        task.compare(first, second)
        task.cost(first)
        task.ranks(second)
        self.assertEqual(repr((first, second)), before)


if __name__ == "__main__":
    unittest.main()
