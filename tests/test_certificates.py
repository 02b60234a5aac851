"""Clues, lines that fit them, and tables of lines (points 65, 66 and 68)."""

import unittest

from enumeration import programs_of
from leastfit.certificates import clue_rows, example_clues, fits_clues, is_clue, make_table
from leastfit.meaning import outcomes
from leastfit.tables import Table
from leastfit.tasks import Task
from samples import CONSTANTS, GOALS, KINDS, NUMBERS, exactly, fits_clue, goal_of, rows_of

TASK = Task(["number", "truth", "text", "list"], "list", [("append", 1), ("count_of", 1), ("sum", 1)], [(1, 1)])
ROW = (1, True, "a", (1, 0))
OTHER = (0, False, "", ())
GOAL = goal_of(TASK, [(ROW, (1,)), (OTHER, (0, 1))], [], [[1, 0], [True], ["a", "b"], [(1, 0), ()]])


class ClueTest(unittest.TestCase):

    def test_clues(self):
        self.assertIs(is_clue(GOAL, ("example", ROW, (1,))), True)
        self.assertIs(is_clue(GOAL, ("example", OTHER, (0, 1))), True)
        for row in GOAL.rows():
            self.assertIs(is_clue(GOAL, ("asked", row)), True)

    def test_rows_and_values_of_others(self):
        for clue in (
            ("example", ROW, (0, 1)), ("example", OTHER, (1,)), ("example", ROW, ()), ("example", (2, *ROW[1:]), (1,)),
            ("example", (0, True, "a", (1, 0)), (1,)), ("asked", OTHER), ("asked", (2, *ROW[1:])),
            ("asked", (1, False, "a", ())), ("asked", (1, True, "", ())), ("asked", (1, True, "a", (1,))),
        ):
            self.assertIs(is_clue(GOAL, clue), False, clue)

    def test_one_is_not_true(self):
        for wrong in (
            (True, True, "a", (1, 0)), (1, 1, "a", (1, 0)), (1, True, "a", (True, 0)), (1, True, "a", (1, False)),
            (1, True, "a", [1, 0]), (1, True, None, (1, 0)), (None, True, "a", (1, 0)), [1, True, "a", (1, 0)],
        ):
            self.assertIs(is_clue(GOAL, ("example", wrong, (1,))), False, wrong)
            self.assertIs(is_clue(GOAL, ("asked", wrong)), False, wrong)
        for wrong in ((True,), [1], None, 1, True):
            self.assertIs(is_clue(GOAL, ("example", ROW, wrong)), False, wrong)
        self.assertIs(is_clue(GOAL, ("asked", (False, True, "a", ()))), False)
        self.assertIs(is_clue(GOAL, ("asked", (0, True, "a", ()))), True)
        self.assertIs(is_clue(GOAL, ("asked", (0, 1, "a", ()))), False)
        truths = goal_of(Task(["number"], "truth", [("less", 1)], []), [((1,), True), ((0,), False)])
        self.assertIs(is_clue(truths, ("example", (1,), True)), True)
        self.assertIs(is_clue(truths, ("example", (1,), 1)), False)
        self.assertIs(is_clue(truths, ("example", (0,), 0)), False)
        self.assertIs(is_clue(truths, ("example", (False,), False)), False)

    def test_other_forms(self):
        nested = []
        for _ in range(30000):
            nested = [nested]
        for wrong in (
            (), None, True, 1, "example", "asked", "", [], ["example", ROW, (1,)], ["asked", ROW], ("example",),
            ("asked",), ("example", ROW), ("example", ROW, (1,), None), ("asked", ROW, None), ("asked", ROW, (1,)),
            ("example", (1,), ROW), ("Example", ROW, (1,)), ("ask", ROW), (1, ROW), (None, ROW, (1,)),
            (("asked",), ROW), (["asked"], ROW), (ROW, "asked"), ("asked", "asked"), ("asked", None), ("asked", [ROW]),
            ("asked", (ROW,)), ("asked", ()), ("asked", ROW[:3]), ("asked", ROW + (1,)), ("example", ROW[:3], (1,)),
            ("example", (), (1,)), ("example", None, None), ((), ()), ([], [], []), ("asked", nested),
            ("example", nested, nested), ("asked", (nested,) * 4), ("example", ROW, nested), (nested, nested), nested,
        ):
            self.assertIs(is_clue(GOAL, wrong), False)

    def test_without_inputs(self):
        goal = goal_of(CONSTANTS, [((), 9)])
        self.assertIs(is_clue(goal, ("asked", ())), True)
        self.assertIs(is_clue(goal, ("asked", (1,))), False)
        self.assertIs(is_clue(goal, ("example", (), 9)), True)
        self.assertIs(is_clue(goal, ("example", (), 8)), False)

    def test_without_examples_and_rows(self):
        goal = goal_of(TASK)
        self.assertIs(is_clue(goal, ("asked", ROW)), False)
        self.assertIs(is_clue(goal, ("example", ROW, (1,))), False)
        one_is_empty = goal_of(TASK, [], [], [[1], [True], [], [()]])
        self.assertIs(is_clue(one_is_empty, ("asked", (1, True, "a", ()))), False)

    def test_rows_of_clues(self):
        self.assertEqual(clue_rows([]), [])
        clues = [("example", ROW, (1,)), ("asked", OTHER), ("example", ROW, ()), ("asked", ROW)]
        self.assertEqual(clue_rows(clues), [ROW, OTHER, ROW, ROW])
        self.assertEqual(clues, [("example", ROW, (1,)), ("asked", OTHER), ("example", ROW, ()), ("asked", ROW)])
        self.assertEqual(clue_rows([("asked", ())]), [()])


class FittingTest(unittest.TestCase):

    def test_examples(self):
        goal = goal_of(NUMBERS, [((1,), 3), ((0,), 1)])
        clues = [("example", (1,), 3), ("example", (0,), 1)]
        for line, expected in (
            ((3, 1), True), ((3, 0), False), ((1, 3), False), ((None, 1), False), ((3, None), False),
            ((3, True), False), ((None, None), False),
        ):
            self.assertIs(fits_clues(goal, clues, line), expected, line)
        self.assertIs(fits_clues(goal, clues[1:], (1,)), True)
        self.assertIs(fits_clues(goal, clues[:1], (1,)), False)

    def test_asked_rows(self):
        goal = goal_of(NUMBERS, [((1,), 3)], ["(less x0 x1)", "(is_even (divide 12 x1))"], [[0, 1]])
        clues = [("asked", (0,)), ("asked", (1,))]
        for line, expected in (
            ((1, 2), True), ((6, 6), True), ((0, 2), False), ((1, 1), False), ((4, 6), False), ((6, 4), False),
            ((None, 2), False), ((1, None), False), ((-6, 2), False), ((6, 13), True), ((13, 0), False),
        ):
            self.assertIs(fits_clues(goal, clues, line), expected, line)

    def test_both(self):
        goal = goal_of(NUMBERS, [((1,), 3)], ["(less x0 x1)"], [[0, 1]])
        clues = [("asked", (0,)), ("example", (1,), 3), ("asked", (1,))]
        self.assertIs(fits_clues(goal, clues, (1, 3, 3)), True)
        self.assertIs(fits_clues(goal, clues, (1, 2, 3)), False)
        self.assertIs(fits_clues(goal, clues, (0, 3, 3)), False)
        self.assertIs(fits_clues(goal, clues, (1, 3, 1)), False)
        # Properties are not looked at for an example.
        self.assertIs(fits_clues(goal_of(NUMBERS, [((1,), 3)], ["false"]), clues[1:2], (3,)), True)

    def test_without_clues(self):
        self.assertIs(fits_clues(goal_of(NUMBERS), [], ()), True)

    def test_without_properties_outcomes_must_be_defined(self):
        goal = goal_of(NUMBERS, [], [], [[5]])
        self.assertIs(fits_clues(goal, [("asked", (5,))], (0,)), True)
        self.assertIs(fits_clues(goal, [("asked", (5,))], (None,)), False)

    def test_truths(self):
        goal = goal_of(Task(["number"], "truth", [("less", 1)], []), [((1,), True), ((2,), False)])
        clues = example_clues(goal)
        self.assertIs(fits_clues(goal, clues, (True, False)), True)
        self.assertIs(fits_clues(goal, clues, (1, False)), False)
        self.assertIs(fits_clues(goal, clues, (True, 0)), False)

    def test_against_the_points(self):
        for goal, _ in GOALS:
            clues = example_clues(goal) + [("asked", row) for row in rows_of(goal)]
            rows = clue_rows(clues)
            for cost in range(1, 5):
                for kind, program in programs_of(goal.task(), cost):
                    if kind == goal.task().result():
                        expected = all(fits_clue(goal, program, clue) for clue in clues)
                        self.assertIs(fits_clues(goal, clues, outcomes(program, rows)), expected)


class ExampleCluesTest(unittest.TestCase):

    def test_order(self):
        goal = goal_of(NUMBERS, [((2,), 5), ((1,), 3), ((0,), 1)])
        self.assertEqual(example_clues(goal), [("example", (2,), 5), ("example", (1,), 3), ("example", (0,), 1)])
        self.assertEqual(example_clues(goal_of(NUMBERS, [], [], [[1]])), [])

    def test_each_equal_clue_once(self):
        goal = goal_of(NUMBERS, [((2,), 5), ((1,), 3), ((2,), 5), ((2,), 6), ((1,), 5), ((1,), 3), ((2,), 6)])
        self.assertEqual(example_clues(goal), [
            ("example", (2,), 5), ("example", (1,), 3), ("example", (2,), 6), ("example", (1,), 5),
        ])

    def test_list_is_new(self):
        goal = goal_of(NUMBERS, [((2,), 5)])
        example_clues(goal).clear()
        self.assertEqual(example_clues(goal), [("example", (2,), 5)])


class MakeTableTest(unittest.TestCase):

    def test_classes_up_to_a_cost(self):
        for goal, _ in GOALS:
            table = Table(goal.task(), clue_rows(example_clues(goal)))
            for level in range(6):
                for cost in range(level + 1):
                    expected = {kind: [] for kind in KINDS}
                    for kind in KINDS:
                        for each in range(1, cost + 1):
                            expected[kind] += table.classes(kind, each)
                    made = make_table(table, cost)
                    self.assertEqual(sorted(made), sorted(KINDS))
                    self.assertEqual(exactly([made[kind] for kind in KINDS]),
                                     exactly([expected[kind] for kind in KINDS]))
                table.grow()

    def test_cost_zero(self):
        table = Table(NUMBERS, [(5,)])
        table.grow()
        self.assertEqual(make_table(table, 0), {"number": [], "truth": [], "text": [], "list": []})
        self.assertEqual(make_table(table, 1)["number"], [(("input", 0), (5,)), (("constant", 1), (1,))])

    def test_table_is_not_modified(self):
        table = Table(NUMBERS, [(5,)])
        table.grow()
        table.grow()
        before = exactly(make_table(table, 2))
        made = make_table(table, 2)
        for kind in KINDS:
            made[kind].append(None)
        made.clear()
        self.assertEqual(exactly(make_table(table, 2)), before)
        self.assertEqual(table.level(), 2)
        self.assertEqual(len(table.classes("number", 1)), 2)


if __name__ == "__main__":
    unittest.main()
