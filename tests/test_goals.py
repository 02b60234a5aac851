"""Goals: examples, properties, the box and what fits them (points 60 to 64)."""

import itertools
import unittest

from leastfit.errors import InvalidProgram, InvalidValue, LeastError, TooLarge
from leastfit.goals import Goal
from leastfit.meaning import run
from leastfit.notation import read_program
from leastfit.tasks import Task
from enumeration import programs_of
from samples import GOALS, exactly, fits, goal_of, meets, rows_of

TASK = Task(["number", "text"], "number", [("add", 1), ("length", 1), ("divide", 1)], [(0, 1)])
TRUE = ("constant", True)
X0, X1, X2 = ("input", 0), ("input", 1), ("input", 2)
EXAMPLE = ((1, "a"), 2)

# Each kind with values that belong to it, and others that do not, though Python may take them for the same.
RIGHT = {
    "number": [0, -1000000, 1000000], "truth": [True, False], "text": ["", "a" * 30, " 0z"],
    "list": [(), (0,), (1000000,) * 12],
}
WRONG = {
    "number": [True, False, None, 1000001, -1000001, "1", (1,), [1]],
    "truth": [1, 0, None, "true", ()],
    "text": [None, "A", "a" * 31, "a\n", 1, ("a",), ["a"]],
    "list": [None, [], [1], (True,), (0, False), (None,), (1000001,), (0,) * 13, ((1,),), 1, ""],
}


def read(text, task=TASK):
    return read_program(task.kinds() + [task.result()], text)


class RefusalTest(unittest.TestCase):

    def refuse(self, error, attribute, wrong, *arguments):
        with self.assertRaises(error) as caught:
            Goal(*arguments)
        self.assertIs(type(caught.exception), error)
        self.assertEqual(exactly(getattr(caught.exception, attribute)), exactly(wrong))

    def refuse_value(self, wrong, *arguments):
        self.refuse(InvalidValue, "value", wrong, *arguments)

    def test_rows_of_another_length(self):
        for row in ((), (1,), ("a",), (1, "a", 2), (1, "a", None)):
            self.refuse_value(row, TASK, [(row, 2)], [], [[], []])
            self.refuse_value(row, TASK, [EXAMPLE, (row, 2), ((), 2)], [], [[], []])
        none = Task([], "number", [("neg", 1)], [])
        self.refuse_value((1,), none, [((), 1), ((1,), 1)], [], [])

    def test_rows_with_values_of_another_kind(self):
        for kind, values in WRONG.items():
            task = Task(["number", kind], "number", [("neg", 1)], [])
            for value in values:
                with self.subTest(kind=kind, value=value):
                    self.refuse_value((1, value), task, [((1, value), 2)], [], [[], []])

    def test_values_of_another_kind(self):
        for kind, values in WRONG.items():
            task = Task(["number"], kind, [("neg", 1)], [])
            for value in values:
                with self.subTest(kind=kind, value=value):
                    self.refuse_value(value, task, [((1,), value)], [], [[]])

    def test_the_first_example_that_is_wrong(self):
        self.refuse_value((True, "a"), TASK, [EXAMPLE, ((True, "a"), None)], [], [[], []])
        self.refuse_value(None, TASK, [EXAMPLE, ((1, "b"), None), ((), True)], [], [[], []])
        self.refuse_value((), TASK, [EXAMPLE, ((), 2), ((1, "b"), None)], [], [[], []])

    def test_box_of_another_length(self):
        for box in ([], [[]], [[1]], [[], [], []], [[1], ["a"], [2]], [[None]], [[]] * 5):
            self.refuse_value(box, TASK, [], [], box)
        none = Task([], "number", [("neg", 1)], [])
        self.refuse_value([[]], none, [], [], [[]])
        self.refuse_value([[], []], none, [], [], [[], []])

    def test_box_with_values_of_another_kind(self):
        for kind, values in WRONG.items():
            task = Task([kind, "number"], "number", [("neg", 1)], [])
            for value in values:
                with self.subTest(kind=kind, value=value):
                    self.refuse_value(value, task, [], [], [[value], []])
                    self.refuse_value(value, task, [], [], [[RIGHT[kind][0], value, "none"], [None]])
        self.refuse_value(True, TASK, [], [], [[1, 2, 1], ["a", True, None]])

    def test_parts_of_properties(self):
        for wrong, part in (
            (("input", 3), ("input", 3)), ((), ()), (None, None), ("x0", "x0"), (("negate",), ("negate",)),
            (("negate", ("equal", X0, X1)), X1), (("less", X0, ("input", True)), ("input", True)),
            (("negate", ("constant", 1)), ("constant", 1)), (("less", X0, ("constant", None)), ("constant", None)),
            (("wish", X0), ("wish", X0)), (("negate", TRUE, TRUE), ("negate", TRUE, TRUE)), ([X0], [X0]),
        ):
            with self.subTest(wrong):
                self.refuse(InvalidProgram, "part", part, TASK, [], [wrong], [[], []])
                self.refuse(InvalidProgram, "part", part, TASK, [], [TRUE, wrong, ()], [[], []])
        deep = TRUE
        for _ in range(30):
            deep = ("negate", deep)
        self.refuse(InvalidProgram, "part", TRUE, TASK, [], [deep], [[], []])
        Goal(TASK, [], [deep[1]], [[], []])

    def test_properties_of_another_kind(self):
        for wrong in (X0, X1, X2, ("constant", 1), ("constant", ()), ("add", X0, X2), ("number_text", X0)):
            self.refuse(InvalidProgram, "part", wrong, TASK, [], [TRUE, wrong, ()], [[], []])
        self.refuse(InvalidProgram, "part", X2, TASK, [], [X2], [[], []])
        Goal(Task(["number"], "truth", [("less", 1)], []), [], [X1], [[]])

    def test_too_many(self):
        for many in (0, 1, 19, 20):
            self.assertEqual(Goal(TASK, [EXAMPLE] * many, [], [[], []]).examples(), [EXAMPLE] * many)
        for many in (21, 22, 50):
            self.refuse(TooLarge, "limit", "examples", TASK, [EXAMPLE] * many, [], [[], []])
        for many in (0, 1, 3, 4):
            self.assertEqual(Goal(TASK, [], [TRUE] * many, [[], []]).properties(), [TRUE] * many)
        for many in (5, 6, 50):
            self.refuse(TooLarge, "limit", "properties", TASK, [], [TRUE] * many, [[], []])

    def test_too_many_rows(self):
        one, two = Task(["number"], "number", [("neg", 1)], []), TASK
        four = Task(["number"] * 4, "number", [("neg", 1)], [])
        for task, box in (
            (one, [list(range(2000))]), (one, [[1] * 2000]), (two, [list(range(40)), ["a"] * 50]),
            (two, [[1] * 2000, [""]]), (two, [[5], [""] * 2000]), (two, [[1] * 5000, []]), (two, [[], ["a"] * 5000]),
            (four, [[1] * 5, [2] * 10, [3] * 10, [4] * 4]), (four, [[1] * 100, [2] * 100, [], [3] * 100]),
        ):
            self.assertLessEqual(len(Goal(task, [], [], box).rows()), 2000)
        for task, box in (
            (one, [list(range(2001))]), (one, [[1] * 100000]), (two, [list(range(29)), ["a"] * 69]),
            (two, [[1] * 2001, [""]]), (two, [[5], [""] * 2001]), (four, [[1] * 5, [2] * 10, [3] * 10, [4] * 5]),
            (four, [[1] * 10000] * 4),
        ):
            self.refuse(TooLarge, "limit", "rows", task, [], [], box)

    def test_which_error_comes_first(self):
        many_examples, many_rows = [EXAMPLE] * 21, [[1] * 2001, ["a"]]
        self.refuse_value((), TASK, many_examples + [((), 1)], [X0] * 5, [[None]])
        self.refuse_value([[None]], TASK, many_examples, [X0] * 5, [[None]])
        self.refuse_value(None, TASK, many_examples, [X0] * 5, [[1] * 2001, ["a", None]])
        self.refuse(InvalidProgram, "part", X0, TASK, many_examples, [TRUE] * 5 + [X0], many_rows)
        self.refuse(TooLarge, "limit", "examples", TASK, many_examples, [TRUE] * 5, many_rows)
        self.refuse(TooLarge, "limit", "properties", TASK, [EXAMPLE] * 20, [TRUE] * 5, many_rows)
        self.refuse(TooLarge, "limit", "rows", TASK, [EXAMPLE] * 20, [TRUE] * 4, many_rows)

    def test_errors(self):
        for error in (InvalidValue, InvalidProgram, TooLarge):
            self.assertTrue(issubclass(error, LeastError))

    def test_arguments_of_a_refusal_are_not_modified(self):
        examples, properties, box = [EXAMPLE] * 21, [TRUE] * 5, [[1, 1], ["a"]]
        self.assertRaises(TooLarge, Goal, TASK, examples, properties, box)
        self.assertEqual((examples, properties, box), ([EXAMPLE] * 21, [TRUE] * 5, [[1, 1], ["a"]]))


class ListsTest(unittest.TestCase):

    def test_what_it_was_made_with(self):
        properties = [read("(less x0 x2)"), read('(contains x1 "q")')]
        goal = Goal(TASK, [EXAMPLE, EXAMPLE, ((1, "a"), 3)], properties, [[2, 1, 2], ["b"]])
        self.assertIs(goal.task(), TASK)
        self.assertEqual(goal.examples(), [EXAMPLE, EXAMPLE, ((1, "a"), 3)])
        self.assertEqual(goal.properties(), properties)
        self.assertEqual(goal.box(), [[2, 1, 2], ["b"]])

    def test_every_kind(self):
        for kind, other in itertools.product(RIGHT, repeat=2):
            task = Task([kind], other, [("neg", 1)], [])
            examples = [((value,), result) for value, result in itertools.product(RIGHT[kind], RIGHT[other])]
            goal = Goal(task, examples, [], [RIGHT[kind]])
            self.assertEqual(exactly(goal.examples()), exactly(examples))
            self.assertEqual(exactly(goal.rows()), exactly([(value,) for value in RIGHT[kind]]))

    def test_lists_are_copied(self):
        examples, properties, box = [EXAMPLE], [TRUE], [[1, 2], ["a"]]
        goal = Goal(TASK, examples, properties, box)
        examples.clear()
        properties[0] = None
        box[0].append(None)
        box[1].clear()
        box.pop()
        self.assertEqual(goal.examples(), [EXAMPLE])
        self.assertEqual(goal.properties(), [TRUE])
        self.assertEqual(goal.box(), [[1, 2], ["a"]])
        self.assertEqual(goal.rows(), [(1, "a"), (2, "a")])

    def test_lists_that_are_returned_are_new(self):
        goal = Goal(TASK, [EXAMPLE], [TRUE], [[1, 2], ["a"]])
        goal.examples().clear()
        goal.properties().clear()
        goal.box()[0].clear()
        goal.box()[1].append(None)
        goal.box().clear()
        goal.rows().clear()
        self.assertEqual(goal.examples(), [EXAMPLE])
        self.assertEqual(goal.properties(), [TRUE])
        self.assertEqual(goal.box(), [[1, 2], ["a"]])
        self.assertEqual(goal.rows(), [(1, "a"), (2, "a")])

    def test_arguments_are_not_modified(self):
        examples, properties, box = [EXAMPLE], [read("(less x0 x2)")], [[1, 2], ["a"]]
        goal = Goal(TASK, examples, properties, box)
        goal.rows()
        goal.failure(X0)
        goal.holds(X0, (1, "a"))
        self.assertEqual((examples, box), ([EXAMPLE], [[1, 2], ["a"]]))
        self.assertEqual(properties, [read("(less x0 x2)")])


class RowsTest(unittest.TestCase):

    def rows(self, kinds, box):
        return Goal(Task(kinds, "number", [("neg", 1)], []), [], [], box).rows()

    def test_last_input_changes_fastest(self):
        self.assertEqual(self.rows(["number", "text"], [[2, 1], ["b", "a", ""]]), [
            (2, "b"), (2, "a"), (2, ""), (1, "b"), (1, "a"), (1, ""),
        ])
        box = [[3, 1], [True, False], ["a"], [(), (1,)]]
        self.assertEqual(exactly(self.rows(["number", "truth", "text", "list"], box)),
                         exactly(list(itertools.product(*box))))

    def test_without_inputs(self):
        self.assertEqual(self.rows([], []), [()])

    def test_an_empty_list(self):
        self.assertEqual(self.rows(["number"], [[]]), [])
        self.assertEqual(self.rows(["number", "text"], [[], ["a"]]), [])
        self.assertEqual(self.rows(["number", "text"], [[1, 2], []]), [])

    def test_equal_values(self):
        self.assertEqual(self.rows(["number", "number"], [[1, 1], [2, 2]]), [(1, 2)] * 4)

    def test_all_that_a_box_may_have(self):
        box = [list(range(20)), list(range(100, 200))]
        self.assertEqual(self.rows(["number", "number"], box), list(itertools.product(*box)))


class FittingTest(unittest.TestCase):

    def test_holds_where_all_properties_do(self):
        goal = goal_of(TASK, [], ["(less x0 x2)", "(equal x2 (length x1))"], [[1, 5], ["abc"]])
        program = ("length", X1)
        self.assertIs(goal.holds(program, (1, "abc")), True)
        self.assertIs(goal.holds(program, (3, "abc")), False)
        self.assertIs(goal.holds(X0, (3, "abc")), False)
        # A row need not be one of the box.
        self.assertIs(goal.holds(program, (-7, "")), True)

    def test_undefined_outcomes(self):
        program = ("divide", X0, ("length", X1))
        for properties in ([], ["true"], ["(equal x2 x2)"], ["(is_empty [])", "true"]):
            goal = goal_of(TASK, [], properties, [[6], ["", "ab"]])
            self.assertIs(goal.holds(program, (6, "")), False)
            self.assertIs(goal.holds(program, (6, "ab")), True)
            self.assertEqual(goal.failure(program), ("property", (6, "")))
            self.assertIs(goal.accepts_outcome((6, ""), None), False)
            self.assertIs(goal.accepts_outcome((6, ""), 0), True)

    def test_undefined_properties(self):
        goal = goal_of(TASK, [], ["(equal (divide x0 x2) (divide x0 x2))"], [[6], ["", "a"]])
        self.assertIs(goal.accepts_outcome((6, "a"), 2), True)
        self.assertIs(goal.accepts_outcome((6, "a"), 0), False)
        self.assertIs(goal.holds(("length", X1), (6, "")), False)
        self.assertEqual(goal.failure(("length", X1)), ("property", (6, "")))

    def test_without_properties_and_without_rows(self):
        goal = goal_of(TASK, [EXAMPLE])
        self.assertEqual(goal.rows(), [])
        self.assertIsNone(goal.failure(("add", X0, ("length", X1))))
        self.assertIs(goal.holds(X0, (5, "b")), True)
        self.assertIs(goal.accepts_outcome((5, "b"), -3), True)

    def test_outcomes_of_another_kind(self):
        goal = goal_of(Task(["number"], "number", [("neg", 1)], []), [], ["(less -5 x1)"])
        self.assertIs(goal.accepts_outcome((1,), 1), True)
        self.assertIs(goal.accepts_outcome((1,), True), False)
        truths = goal_of(Task(["number"], "truth", [("less", 1)], []), [], ["x1"])
        self.assertIs(truths.accepts_outcome((1,), True), True)
        self.assertIs(truths.accepts_outcome((1,), False), False)
        self.assertIs(truths.accepts_outcome((1,), 1), False)

    def test_properties_may_use_other_parts(self):
        # Neither `sum` and `up_to` nor 15 and "abcde" are parts of the task.
        goal = goal_of(TASK, [], ['(equal (add (sum (up_to x2)) 15) (mul 2 (add 15 (length (start "abcde" 0)))))'])
        self.assertIs(goal.accepts_outcome((0, ""), 5), True)
        self.assertIs(goal.accepts_outcome((0, ""), 4), False)

    def test_first_example_that_fails(self):
        goal = goal_of(TASK, [((1, "a"), 1), ((2, "a"), 2), ((3, "b"), 4), ((4, "b"), 5)], ["false"], [[1], ["a"]])
        self.assertEqual(goal.failure(X0), ("example", 2))
        self.assertEqual(goal.failure(("constant", 0)), ("example", 0))
        self.assertEqual(goal.failure(("divide", X0, ("constant", 0))), ("example", 0))

    def test_first_row_that_fails(self):
        properties = ["(less x2 4)", "(less x2 (length x1))"]
        goal = goal_of(TASK, [((5, "a"), 5)], properties, [[1, 3, 2], ["ab", "abcd", "a"]])
        self.assertEqual(goal.failure(X0), ("property", (1, "a")))
        self.assertEqual(goal.failure(("add", X0, ("constant", 0))), ("property", (1, "a")))
        later = goal_of(TASK, [], ["(less x2 4)"], [[1, 3, 5, 4], ["ab", "abcd"]])
        self.assertEqual(later.failure(X0), ("property", (5, "ab")))

    def test_same_row_and_other_value(self):
        goal = goal_of(TASK, [((1, "a"), 1), ((1, "a"), 2)])
        self.assertEqual(goal.failure(X0), ("example", 1))
        self.assertEqual(goal.failure(("add", X0, X0)), ("example", 0))

    def test_no_inputs(self):
        task = Task([], "number", [("add", 1)], [(1, 1)])
        goal = goal_of(task, [((), 1)], ["(less x0 2)"])
        self.assertIsNone(goal.failure(("constant", 1)))
        self.assertEqual(goal_of(task, [], ["(less x0 2)"]).failure(("add", ("constant", 1), ("constant", 1))),
                         ("property", ()))

    def test_against_the_points(self):
        for goal, most in GOALS:
            for cost in range(1, min(most, 5) + 1):
                for kind, program in programs_of(goal.task(), cost):
                    if kind == goal.task().result():
                        self.check(goal, program)

    def check(self, goal, program):
        self.assertIs(goal.failure(program) is None, fits(goal, program))
        wrong = [k for k, (row, value) in enumerate(goal.examples()) if run(program, row) != value]
        unmet = [row for row in rows_of(goal) if not meets(goal, program, row)]
        expected = ("example", wrong[0]) if wrong else ("property", unmet[0]) if unmet else None
        self.assertEqual(exactly(goal.failure(program)), exactly(expected))
        for row in rows_of(goal):
            self.assertIs(goal.holds(program, row), meets(goal, program, row))
            self.assertIs(goal.accepts_outcome(row, run(program, row)), meets(goal, program, row))


if __name__ == "__main__":
    unittest.main()
