"""Search: clues, steps, statuses and answers (points 75 to 78)."""

import itertools
import unittest
from unittest import mock

from leastfit import tables
from leastfit.certificates import clue_rows, example_clues
from leastfit.checker import accepts
from leastfit.goals import Goal
from leastfit.search import Search
from leastfit.tasks import Task
from samples import (
    CONSTANTS, GOALS, KINDS, NUMBERS, all_lines, exactly, fits, fits_clue, goal_of, in_order, least_fitting, meets,
    rows_of,
)

X0 = ("input", 0)
OPEN = ("open",)
EMPTY = {kind: [] for kind in KINDS}

# All texts of "a" and "b" with up to five letters, in the order in which a search of AB finds them.
AB = Task(["text"], "text", [("concat", 1)], [("a", 1), ("b", 1)], input_cost=9)
WORDS = ["".join(letters) for many in range(1, 6) for letters in itertools.product("ab", repeat=many)]


def avoiding(words, examples=()):
    """A goal whose result must differ from the input, for the inputs that are words."""
    return goal_of(AB, examples, ["(negate (same_text x0 x1))"], [words])


class Model:
    """A search as point 76 tells it, which looks at all programs in their order."""

    def __init__(self, goal, greatest_cost):
        self.goal, self.greatest_cost = goal, greatest_cost
        self.clues = []
        for row, value in goal.examples():
            if ("example", row, value) not in self.clues:
                self.clues.append(("example", row, value))
        self.level = 0
        self.status = "running" if greatest_cost else "none"
        self.program = None

    def fitting(self, cost):
        for program in in_order(self.goal.task(), cost, self.goal.task().result()):
            if all(fits_clue(self.goal, program, clue) for clue in self.clues):
                return program
        return None

    def step(self):
        if self.status != "running":
            return
        self.level += 1
        self.program = self.fitting(self.level)
        if self.program is None:
            if self.level == self.greatest_cost:
                self.status = "none"
            return
        failed = [row for row in rows_of(self.goal) if not meets(self.goal, self.program, row)]
        if not failed:
            self.status = "least"
            return
        self.clues.append(("asked", failed[0]))
        if len(self.clues) > 40:
            self.status = "large"
        else:
            self.level = 0

    def answer(self):
        if self.status not in ("least", "none"):
            return OPEN
        cost = self.level if self.status == "least" else self.greatest_cost
        lines = all_lines(self.goal.task(), clue_rows(self.clues), cost)
        return (self.status, self.program if self.status == "least" else cost, self.clues, lines)


def ended(goal, cost):
    search = Search(goal, cost)
    search.run(10 ** 6)
    return search


class BeginningTest(unittest.TestCase):

    def test_at_the_beginning(self):
        for goal, most in GOALS:
            for cost in (1, 2, most, 30):
                search = Search(goal, cost)
                self.assertEqual(search.status(), "running")
                self.assertEqual(search.level(), 0)
                self.assertEqual(exactly(search.clues()), exactly(example_clues(goal)))
                self.assertEqual(search.answer(), OPEN)

    def test_equal_examples_are_one_clue(self):
        search = Search(goal_of(NUMBERS, [((2,), 5), ((1,), 3), ((2,), 5), ((2,), 6), ((1,), 3)]), 3)
        self.assertEqual(search.clues(), [("example", (2,), 5), ("example", (1,), 3), ("example", (2,), 6)])

    def test_greatest_cost_zero(self):
        for goal, _ in GOALS:
            search = Search(goal, 0)
            self.assertEqual(search.status(), "none")
            self.assertEqual(search.answer(), ("none", 0, example_clues(goal), EMPTY))
            self.assertEqual(search.step(), "none")
            self.assertEqual(search.run(5), "none")
            self.assertEqual(search.level(), 0)
            self.assertIs(accepts(goal, search.answer()), True)


class StepTest(unittest.TestCase):

    def same(self, search, model):
        self.assertEqual(search.status(), model.status)
        self.assertEqual(search.level(), model.level)
        self.assertEqual(exactly(search.clues()), exactly(model.clues))
        if model.status == "running":
            self.assertEqual(search.answer(), OPEN)

    def test_step_by_step(self):
        ends = []
        for goal, most in GOALS:
            for cost in (1, 2, most - 1, most):
                search, model = Search(goal, cost), Model(goal, cost)
                while model.status == "running":
                    model.step()
                    self.assertEqual(search.step(), model.status)
                    self.same(search, model)
                self.assertEqual(exactly(search.answer()), exactly(model.answer()))
                ends.append(model.status)
        self.assertEqual(set(ends), {"least", "none"})

    def test_what_a_level_tells(self):
        # Point 77: as long as the search goes on, all programs up to the level fail a clue.
        for goal, most in GOALS:
            search = Search(goal, most)
            while search.status() == "running":
                for cost in range(1, search.level() + 1):
                    for program in in_order(goal.task(), cost, goal.task().result()):
                        self.assertFalse(all(fits_clue(goal, program, clue) for clue in search.clues()))
                search.step()

    def test_no_step_after_the_end(self):
        for goal, most in GOALS:
            search = ended(goal, most)
            before = exactly((search.status(), search.level(), search.clues(), search.answer()))
            self.assertEqual(search.step(), search.status())
            self.assertEqual(search.run(3), search.status())
            self.assertEqual(exactly((search.status(), search.level(), search.clues(), search.answer())), before)

    def test_run(self):
        for goal, most in GOALS:
            counting, steps = Search(goal, most), 0
            while counting.status() == "running":
                counting.step()
                steps += 1
            for limit in (0, 1, 2, steps - 1, steps, steps + 1, 10 ** 30):
                search, stepped = Search(goal, most), Search(goal, most)
                for _ in range(min(limit, steps)):
                    stepped.step()
                self.assertEqual(search.run(limit), stepped.status())
                self.assertEqual(search.status() == "running", limit < steps)
                self.assertEqual(exactly((search.level(), search.clues(), search.answer())),
                                 exactly((stepped.level(), stepped.clues(), stepped.answer())))
            halves = Search(goal, most)
            halves.run(steps // 2)
            self.assertEqual(halves.run(steps - steps // 2), counting.status())
            self.assertEqual(exactly(halves.answer()), exactly(counting.answer()))

    def test_first_row_that_is_not_met(self):
        goal = goal_of(NUMBERS, [], ["(less x0 x1)"], [[0, 7, -3, 9]])
        search = Search(goal, 5)
        # x0 is the first program of all, and fails already at 0. Then 1 fails at 7, and (add x0 1) is left.
        self.assertEqual([search.step(), search.clues(), search.level()], ["running", [("asked", (0,))], 0])
        self.assertEqual([search.step(), search.level()], ["running", 0])
        self.assertEqual(search.clues(), [("asked", (0,)), ("asked", (7,))])
        self.assertEqual([search.run(2), search.level()], ["running", 2])
        self.assertEqual([search.step(), search.level()], ["least", 3])
        self.assertEqual(search.answer()[1], ("add", X0, ("constant", 1)))

    def test_goal_without_anything(self):
        search = ended(goal_of(NUMBERS), 1)
        self.assertEqual(search.answer(), ("least", X0, [], {**EMPTY, "number": [(X0, ())]}))
        search = ended(goal_of(CONSTANTS), 1)
        self.assertEqual(search.answer()[:3], ("least", ("constant", 3), []))


class LargeTest(unittest.TestCase):

    def test_forty_clues(self):
        for many in (39, 40):
            search = ended(avoiding(WORDS[:many]), 11)
            self.assertEqual(search.status(), "least")
            # The first candidate, "a", gives the first clue, and so on.
            self.assertEqual(search.clues(), [("asked", (word,)) for word in WORDS[:many]])
            self.assertIs(accepts(avoiding(WORDS[:many]), search.answer()), True)

    def test_forty_one_clues(self):
        for many in (41, 42, 62):
            goal = avoiding(WORDS[:many])
            search = ended(goal, 11)
            self.assertEqual(search.status(), "large")
            self.assertEqual(search.clues(), [("asked", (word,)) for word in WORDS[:41]])
            self.assertEqual(search.answer(), OPEN)
            # The table is not made anew.
            self.assertEqual(search.level(), 9)
            self.assertEqual([search.step(), search.level()], ["large", 9])

    def test_steps_with_many_clues(self):
        goal, search = avoiding(WORDS), Search(avoiding(WORDS), 30)
        model = Model(goal, 30)
        for _ in range(60):
            model.step()
            search.step()
            self.assertEqual((search.status(), search.level()), (model.status, model.level))
            self.assertEqual(search.clues(), model.clues)

    def test_twenty_examples(self):
        goal = goal_of(NUMBERS, [((number,), number + 1) for number in range(20)], [], [list(range(100))])
        search = ended(goal, 3)
        self.assertEqual((search.status(), len(search.clues())), ("least", 20))
        self.assertIs(accepts(goal, search.answer()), True)

    def test_too_many_classes(self):
        for goal, most in GOALS:
            model = Model(goal, most)
            while model.status == "running":
                model.step()
            many = sum(map(len, all_lines(goal.task(), clue_rows(model.clues), model.level).values()))
            with mock.patch.object(tables, "MOST_CLASSES", many - 1):
                search = ended(goal, most)
                if search.status() == "large":
                    self.assertEqual(search.answer(), OPEN)
                    before = (search.level(), search.clues())
                    self.assertEqual(search.step(), "large")
                    self.assertEqual((search.level(), search.clues()), before)
                else:
                    # The last level had no new class, or an earlier table was the larger one.
                    self.assertEqual(exactly(search.answer()), exactly(model.answer()))
        # No program fits this goal, and each level has new classes.
        goal, clues = GOALS[2][0], example_clues(GOALS[2][0])
        for level in range(7):
            many = len(all_lines(NUMBERS, clue_rows(clues), level)["number"])
            with mock.patch.object(tables, "MOST_CLASSES", many):
                search = ended(goal, 7)
            self.assertEqual((search.status(), search.level(), search.answer()), ("large", level, OPEN))
            self.assertEqual(search.clues(), clues)

    def test_twenty_thousand_classes(self):
        # The task of all lists of the numbers from 0 to 5.
        task = Task(["list"], "list", [("append", 1)], [(number, 1) for number in range(6)])
        goal = goal_of(task, [(((),), (7,))])
        search = ended(goal, 30)
        self.assertEqual((search.status(), search.level(), search.answer()), ("large", 12, OPEN))
        search = ended(goal, 12)
        self.assertEqual(search.status(), "none")
        found = ended(goal_of(task, [(((),), (5, 4, 3))]), 30).answer()
        self.assertEqual(found[:2], ("least", in_order(task, 7, "list")[6 * 6 * 5 + 6 * 4 + 3]))

    def test_thirty_levels(self):
        task = Task(["truth"], "truth", [("negate", 1)], [])
        goal = goal_of(task, [((True,), True), ((True,), False)])
        search = Search(goal, 30)
        self.assertEqual([search.run(29), search.level()], ["running", 29])
        self.assertEqual([search.step(), search.level()], ["none", 30])
        self.assertEqual(search.answer()[1], 30)
        self.assertIs(accepts(goal, search.answer()), True)

    def test_beyond_thirty_levels(self):
        task = Task(["truth"], "truth", [("negate", 1)], [])
        search = Search(goal_of(task, [((True,), True), ((True,), False)]), 31)
        self.assertEqual([search.run(30), search.level()], ["running", 30])
        self.assertEqual([search.step(), search.level(), search.answer()], ["large", 30, OPEN])

    def test_program_of_cost_thirty(self):
        task = Task([], "number", [("double", 9)], [(7, 3)])
        goal = goal_of(task, [((), 56)])
        program = ("double", ("double", ("double", ("constant", 7))))
        self.assertEqual(ended(goal, 30).answer()[:2], ("least", program))
        self.assertEqual(ended(goal, 29).answer()[:2], ("none", 29))
        self.assertIs(accepts(goal, ended(goal, 30).answer()), True)
        self.assertIs(accepts(goal, ended(goal, 29).answer()), True)


class AnswerTest(unittest.TestCase):

    def test_least_of_all_programs(self):
        for goal, most in GOALS:
            least = least_fitting(goal, most)
            for cost in range(most + 1):
                answer = ended(goal, cost).answer()
                self.assertIs(accepts(goal, answer), True)
                if least is None or goal.task().cost(least) > cost:
                    self.assertEqual(answer[:2], ("none", cost))
                else:
                    self.assertEqual(exactly(answer[:2]), exactly(("least", least)))
                    self.assertTrue(fits(goal, answer[1]))

    def test_order_of_examples_and_rows(self):
        # Another order gives other clues, but no other answer.
        for goal, most in GOALS:
            other = Goal(goal.task(), goal.examples()[::-1], goal.properties()[::-1],
                         [column[::-1] + column for column in goal.box()])
            answer, turned = ended(goal, most).answer(), ended(other, most).answer()
            self.assertEqual(exactly(answer[:2]), exactly(turned[:2]))
            self.assertIs(accepts(other, turned), True)

    def test_lists_that_are_returned_are_new(self):
        for goal, most in GOALS:
            search = ended(goal, most)
            before = exactly((search.clues(), search.answer()))
            search.clues().clear()
            _, _, clues, lines = search.answer()
            clues.append(None)
            for kind in KINDS:
                lines[kind].append(None)
            lines.clear()
            self.assertEqual(exactly((search.clues(), search.answer())), before)
            running = Search(goal, most)
            running.clues().append(None)
            running.run(10 ** 6)
            self.assertEqual(exactly((running.clues(), running.answer())), before)

    def test_goal_is_not_modified(self):
        for goal, most in GOALS:
            before = exactly((goal.examples(), goal.properties(), goal.box()))
            ended(goal, most)
            self.assertEqual(exactly((goal.examples(), goal.properties(), goal.box())), before)


if __name__ == "__main__":
    unittest.main()
