"""The workshop: numbers, what stands, the goal, the kept answer and questions (points 95 to 98)."""

import random
import unittest

from leastfit.certificates import example_clues
from leastfit.checker import accepts
from leastfit.errors import InvalidProgram, InvalidValue, LeastError, NotFound, TooLarge
from leastfit.goals import Goal
from leastfit.search import Search
from leastfit.tasks import Task
from leastfit.workshop import Workshop
from samples import CHOICES, CONSTANTS, GOALS, KINDS, NUMBERS, PAIRS, exactly, fits, least_fitting

X0, X1 = ("input", 0), ("input", 1)
ONE = ("constant", 1)
TRUE, FALSE = ("constant", True), ("constant", False)
NEXT = ("add", X0, ONE)
OPEN = ("open",)
GREATER = ("less", X0, X1)
MANY = 10 ** 6


def shown(workshop):
    """All that a workshop shows."""
    goal = workshop.goal()
    return exactly((
        workshop.examples(), workshop.properties(), workshop.box(), workshop.next_numbers(), workshop.kept(),
        goal.examples(), goal.properties(), goal.box(),
    ))


def filled(goal):
    """A workshop with this goal."""
    workshop = Workshop(goal.task())
    for row, value in goal.examples():
        workshop.add_example(row, value)
    for program in goal.properties():
        workshop.add_property(program)
    workshop.set_box(goal.box())
    return workshop


class NumbersTest(unittest.TestCase):

    def test_at_the_beginning(self):
        for goal, _ in GOALS:
            task = goal.task()
            workshop = Workshop(task)
            self.assertIs(workshop.task(), task)
            self.assertEqual(workshop.examples(), [])
            self.assertEqual(workshop.properties(), [])
            self.assertEqual(workshop.box(), [[] for _ in task.kinds()])
            self.assertEqual(workshop.next_numbers(), (0, 0))
            self.assertIsNone(workshop.kept())
            self.assertIs(workshop.goal().task(), task)
            self.assertEqual(workshop.goal().rows(), [] if task.kinds() else [()])

    def test_numbers_are_given_once(self):
        workshop = Workshop(NUMBERS)
        self.assertEqual([workshop.add_example((k,), k) for k in range(3)], [0, 1, 2])
        self.assertEqual([workshop.add_property(TRUE), workshop.add_property(FALSE)], [0, 1])
        self.assertEqual(workshop.next_numbers(), (3, 2))
        self.assertEqual(workshop.drop_example(2), ((2,), 2))
        self.assertEqual(workshop.drop_property(1), FALSE)
        self.assertEqual(workshop.next_numbers(), (3, 2))
        self.assertEqual([workshop.add_example((7,), 8), workshop.add_property(GREATER)], [3, 2])
        self.assertEqual(workshop.drop_example(0), ((0,), 0))
        self.assertEqual(workshop.examples(), [(1, (1,), 1), (3, (7,), 8)])
        self.assertEqual(workshop.properties(), [(0, TRUE), (2, GREATER)])
        self.assertEqual(workshop.next_numbers(), (4, 3))
        for number in (1, 3):
            workshop.drop_example(number)
        self.assertEqual((workshop.examples(), workshop.next_numbers()), ([], (4, 3)))
        self.assertEqual(workshop.add_example((1,), 1), 4)

    def test_the_goal(self):
        workshop = Workshop(PAIRS)
        for row, value in (((1, 2), 3), ((1, 2), 3), ((0, 0), 5)):
            workshop.add_example(row, value)
        for program in (TRUE, FALSE, TRUE):
            workshop.add_property(program)
        workshop.set_box([[1, 2], [3]])
        workshop.drop_example(1)
        workshop.drop_property(0)
        workshop.add_example((9, 9), 9)
        goal = workshop.goal()
        self.assertIsInstance(goal, Goal)
        self.assertEqual(goal.examples(), [((1, 2), 3), ((0, 0), 5), ((9, 9), 9)])
        self.assertEqual(goal.properties(), [FALSE, TRUE])
        self.assertEqual(goal.rows(), [(1, 3), (2, 3)])
        # A goal stays as it is.
        workshop.drop_example(0)
        workshop.set_box([[], []])
        self.assertEqual(goal.examples(), [((1, 2), 3), ((0, 0), 5), ((9, 9), 9)])
        self.assertEqual(goal.rows(), [(1, 3), (2, 3)])

    def test_box(self):
        workshop = Workshop(PAIRS)
        self.assertEqual(workshop.set_box([[1], [2, 3]]), [[], []])
        self.assertEqual(workshop.set_box([[], [4, 4]]), [[1], [2, 3]])
        self.assertEqual(workshop.box(), [[], [4, 4]])
        none = Workshop(CONSTANTS)
        self.assertEqual(none.set_box([]), [])
        self.assertEqual(none.goal().rows(), [()])

    def test_numbers_that_do_not_stand(self):
        workshop = Workshop(NUMBERS)
        workshop.add_example((1,), 1)
        workshop.add_example((2,), 2)
        workshop.add_property(TRUE)
        workshop.drop_example(0)
        workshop.ask(2, MANY)
        before = shown(workshop)
        for drop, numbers in ((workshop.drop_example, (0, 2, 3, -1, 10 ** 30)), (workshop.drop_property, (1, 2, -1))):
            for number in numbers:
                with self.assertRaises(NotFound) as caught:
                    drop(number)
                self.assertEqual(caught.exception.name, number)
                self.assertEqual(shown(workshop), before)
        workshop.drop_property(0)
        with self.assertRaises(NotFound):
            workshop.drop_property(0)
        self.assertTrue(issubclass(NotFound, LeastError))

    def test_twenty_examples(self):
        workshop = Workshop(NUMBERS)
        for number in range(20):
            self.assertEqual(workshop.add_example((number,), number), number)
        before = shown(workshop)
        for row, value in (((1,), 1), ((100,), 100)):
            self.refuse(TooLarge, "limit", "examples", workshop.add_example, row, value)
            self.assertEqual(shown(workshop), before)
        self.assertEqual(workshop.next_numbers(), (20, 0))
        self.refuse(InvalidValue, "value", (True,), workshop.add_example, (True,), 1)
        workshop.drop_example(7)
        self.assertEqual(workshop.add_example((7,), 7), 20)
        self.assertEqual([number for number, _, _ in workshop.examples()], [*range(7), *range(8, 21)])
        self.refuse(TooLarge, "limit", "examples", workshop.add_example, (1,), 1)
        self.assertEqual(workshop.next_numbers(), (21, 0))

    def test_four_properties(self):
        workshop = Workshop(NUMBERS)
        for number in range(4):
            self.assertEqual(workshop.add_property(TRUE), number)
        before = shown(workshop)
        self.refuse(TooLarge, "limit", "properties", workshop.add_property, GREATER)
        self.assertEqual(shown(workshop), before)
        self.refuse(InvalidProgram, "part", X1, workshop.add_property, X1)
        workshop.drop_property(0)
        self.assertEqual(workshop.add_property(GREATER), 4)
        self.assertEqual(workshop.next_numbers(), (0, 5))
        self.assertEqual([number for number, _ in workshop.properties()], [1, 2, 3, 4])

    def refuse(self, error, attribute, wrong, call, *arguments):
        with self.assertRaises(error) as caught:
            call(*arguments)
        self.assertIs(type(caught.exception), error)
        self.assertEqual(exactly(getattr(caught.exception, attribute)), exactly(wrong))

    def test_what_a_goal_refuses(self):
        workshop = Workshop(NUMBERS)
        workshop.add_example((1,), 2)
        workshop.add_property(GREATER)
        workshop.set_box([[1, 2]])
        self.assertEqual(workshop.ask(5, MANY)[:2], ("least", ("add", X0, X0)))
        before = shown(workshop)
        for error, attribute, wrong, call, *arguments in (
            (InvalidValue, "value", (), workshop.add_example, (), 2),
            (InvalidValue, "value", (True,), workshop.add_example, (True,), True),
            (InvalidValue, "value", True, workshop.add_example, (1,), True),
            (InvalidValue, "value", None, workshop.add_example, (1,), None),
            (InvalidValue, "value", (None,), workshop.add_example, (None,), 1),
            (InvalidProgram, "part", X0, workshop.add_property, X0),
            (InvalidProgram, "part", ("input", 2), workshop.add_property, ("less", X0, ("input", 2))),
            (InvalidProgram, "part", (), workshop.add_property, ("negate", ())),
            (InvalidValue, "value", [], workshop.set_box, []),
            (InvalidValue, "value", [[1], [2]], workshop.set_box, [[1], [2]]),
            (InvalidValue, "value", None, workshop.set_box, [[1, None]]),
            (InvalidValue, "value", False, workshop.set_box, [[0, False]]),
            (TooLarge, "limit", "rows", workshop.set_box, [[1] * 2001]),
        ):
            with self.subTest(arguments):
                self.refuse(error, attribute, wrong, call, *arguments)
                self.assertEqual(shown(workshop), before)

    def test_lists_are_copied(self):
        workshop = Workshop(NUMBERS)
        box = [[1, 2]]
        workshop.set_box(box)
        box[0].append(None)
        box.append([])
        workshop.add_example((1,), 2)
        workshop.add_property(GREATER)
        workshop.ask(5, MANY)
        before = shown(workshop)
        workshop.examples().clear()
        workshop.properties().append(None)
        workshop.box()[0].clear()
        workshop.box().append(None)
        workshop.goal().examples().clear()
        self.assertEqual(shown(workshop), before)
        self.assertEqual(workshop.box(), [[1, 2]])
        earlier = workshop.set_box([[7]])
        earlier[0].append(5)
        self.assertEqual(workshop.box(), [[7]])

    def test_workshops_do_not_share_anything(self):
        first, second = Workshop(NUMBERS), Workshop(NUMBERS)
        first.add_example((1,), 2)
        first.add_property(TRUE)
        first.set_box([[1]])
        first.ask(3, MANY)
        self.assertEqual(shown(second), shown(Workshop(NUMBERS)))


class AskTest(unittest.TestCase):

    def test_answers_of_a_search(self):
        for goal, most in GOALS:
            for cost in (0, 1, 2, most):
                for steps in (0, 1, 2, 5, MANY):
                    workshop, search = filled(goal), Search(goal, cost)
                    search.run(steps)
                    self.assertEqual(exactly(workshop.ask(cost, steps)), exactly(search.answer()))
                    expected = None if search.answer() == OPEN else search.answer()
                    self.assertEqual(exactly(workshop.kept()), exactly(expected))

    def test_kept_program(self):
        workshop = Workshop(NUMBERS)
        workshop.add_example((1,), 2)
        workshop.add_example((5,), 6)
        answer = workshop.ask(10, MANY)
        self.assertEqual(answer[:2], ("least", NEXT))
        for cost in (3, 4, 10, 30):
            for steps in (0, 1, MANY):
                self.assertEqual(workshop.ask(cost, steps), answer)
        # The program costs more than 2: there is a search, whose answer is kept in its place if it is one.
        self.assertEqual(workshop.ask(2, 1), OPEN)
        self.assertEqual(workshop.kept(), answer)
        other = workshop.ask(2, MANY)
        self.assertEqual(other[:2], ("none", 2))
        self.assertEqual(workshop.kept(), other)
        self.assertEqual(workshop.ask(3, 2), OPEN)
        self.assertEqual(workshop.kept(), other)
        self.assertEqual(workshop.ask(3, 3), answer)
        self.assertEqual(workshop.kept(), answer)

    def test_kept_answer_that_there_is_none(self):
        workshop = Workshop(NUMBERS)
        workshop.add_example((1,), 2)
        workshop.add_example((1,), 3)
        answer = workshop.ask(4, MANY)
        self.assertEqual(answer[:2], ("none", 4))
        for cost in (0, 1, 3, 4):
            self.assertEqual(workshop.ask(cost, 0), answer)
        self.assertEqual(workshop.ask(5, 0), OPEN)
        self.assertEqual(workshop.ask(5, 4), OPEN)
        self.assertEqual(workshop.kept(), answer)
        later = workshop.ask(5, 5)
        self.assertEqual(later[:2], ("none", 5))
        self.assertEqual(workshop.kept(), later)
        self.assertEqual(workshop.ask(4, 0), later)

    def test_greatest_cost_zero(self):
        workshop = Workshop(NUMBERS)
        empty = {kind: [] for kind in KINDS}
        self.assertEqual(workshop.ask(0, 0), ("none", 0, [], empty))
        self.assertEqual(workshop.kept(), ("none", 0, [], empty))
        answer = workshop.ask(1, 1)
        self.assertEqual(answer[:2], ("least", X0))
        # No program costs nothing, so that the kept one is no answer.
        self.assertEqual(workshop.ask(0, 0), ("none", 0, [], empty))
        self.assertEqual(workshop.kept()[0], "none")

    def test_greatest_cost_thirty(self):
        task = Task(["truth"], "truth", [("negate", 1)], [])
        workshop = Workshop(task)
        workshop.add_example((True,), True)
        workshop.add_example((True,), False)
        self.assertEqual(workshop.ask(30, 29), OPEN)
        self.assertIsNone(workshop.kept())
        self.assertEqual(workshop.ask(30, 30)[:2], ("none", 30))
        self.assertEqual(workshop.ask(7, 0)[:2], ("none", 30))

    def test_too_large(self):
        task = Task(["list"], "list", [("append", 1)], [(number, 1) for number in range(6)])
        workshop = Workshop(task)
        workshop.add_example(((),), (7,))
        self.assertEqual(workshop.ask(30, MANY), OPEN)
        self.assertIsNone(workshop.kept())
        self.assertEqual(workshop.ask(6, MANY)[:2], ("none", 6))
        self.assertEqual(workshop.ask(30, MANY), OPEN)
        self.assertEqual(workshop.kept()[:2], ("none", 6))

    def test_each_question_is_a_new_search(self):
        workshop = Workshop(NUMBERS)
        workshop.add_example((1,), 2)
        workshop.add_example((5,), 6)
        for _ in range(5):
            self.assertEqual(workshop.ask(5, 2), OPEN)
        self.assertEqual(workshop.ask(5, 3)[1], NEXT)

    def test_answers_that_are_changed(self):
        for goal, most in GOALS:
            workshop = filled(goal)
            answer = workshop.ask(most, MANY)
            before = exactly(answer)
            for one in (answer, workshop.kept(), workshop.ask(0 if answer[0] == "none" else most, MANY)):
                one[2].append(None)
                for kind in KINDS:
                    one[3][kind].append(None)
                one[3].clear()
                self.assertEqual(exactly(workshop.kept()), before)
                self.assertIs(accepts(workshop.goal(), workshop.kept()), True)


class KeepingTest(unittest.TestCase):

    def workshop(self):
        """A workshop in which 0 is asked, and the answer is (add x0 1)."""
        workshop = Workshop(NUMBERS)
        workshop.add_example((4,), 5)
        workshop.add_property(GREATER)
        workshop.set_box([[0, 7]])
        self.assertEqual(workshop.ask(9, MANY)[1], NEXT)
        self.assertEqual(workshop.kept()[2], [("example", (4,), 5)])
        return workshop

    def test_changes_with_which_it_stays(self):
        for change, *arguments in (
            ("add_example", (4,), 5), ("add_example", (9,), 10), ("add_property", TRUE), ("add_property", GREATER),
            ("drop_property", 0), ("set_box", [[0, 7]]), ("set_box", [[]]), ("set_box", [[-3, 4, 5]]),
        ):
            workshop = self.workshop()
            before = workshop.kept()
            getattr(workshop, change)(*arguments)
            self.assertEqual(workshop.kept(), before)
            self.assertEqual(workshop.ask(3, 0), before)
            self.assertIs(accepts(workshop.goal(), before), True)

    def test_changes_with_which_it_is_forgotten(self):
        for change, *arguments in (
            ("add_example", (4,), 6), ("add_example", (9,), 9), ("add_property", FALSE),
            ("add_property", ("less", X1, X0)), ("drop_example", 0), ("set_box", [[1000000]]),
        ):
            workshop = self.workshop()
            before = workshop.kept()
            getattr(workshop, change)(*arguments)
            self.assertIsNone(workshop.kept())
            self.assertEqual(workshop.ask(9, 0), OPEN)
            self.assertIs(accepts(workshop.goal(), before), False)

    def test_clues_that_are_no_longer_asked(self):
        workshop = Workshop(NUMBERS)
        workshop.add_property(GREATER)
        workshop.set_box([[0, 7]])
        self.assertEqual(workshop.ask(9, MANY)[1:3], (NEXT, [("asked", (0,)), ("asked", (7,))]))
        before = workshop.kept()
        workshop.set_box([[7, 1, 0]])
        self.assertEqual(workshop.kept(), before)
        workshop.set_box([[7, 1]])
        self.assertIsNone(workshop.kept())
        self.assertEqual(workshop.ask(9, MANY)[:2], ("least", ("add", X0, X0)))

    def test_a_property_that_is_dropped(self):
        workshop = Workshop(NUMBERS)
        workshop.add_property(GREATER)
        workshop.add_property(GREATER)
        workshop.set_box([[0, 7]])
        answer = workshop.ask(9, MANY)
        workshop.drop_property(0)
        self.assertEqual(workshop.kept(), answer)
        # Without it x0 fits the clues.
        workshop.drop_property(1)
        self.assertIsNone(workshop.kept())
        self.assertEqual(workshop.ask(9, MANY)[:2], ("least", X0))

    def test_an_equal_example_that_stands(self):
        workshop = Workshop(NUMBERS)
        workshop.add_example((4,), 5)
        workshop.add_example((4,), 5)
        answer = workshop.ask(9, MANY)
        workshop.drop_example(0)
        self.assertEqual(workshop.kept(), answer)
        workshop.drop_example(1)
        self.assertIsNone(workshop.kept())

    def test_none_stays_with_more_clues(self):
        workshop = Workshop(NUMBERS)
        workshop.add_example((4,), 5)
        workshop.add_example((4,), 6)
        answer = workshop.ask(4, MANY)
        workshop.add_example((4,), 7)
        workshop.add_property(FALSE)
        workshop.set_box([[1]])
        self.assertEqual(workshop.kept(), answer)
        workshop.drop_example(0)
        self.assertIsNone(workshop.kept())

    def test_none_up_to_zero(self):
        workshop = Workshop(NUMBERS)
        workshop.ask(0, 0)
        workshop.add_example((1,), 1)
        workshop.set_box([[1]])
        self.assertEqual(workshop.kept()[:3], ("none", 0, []))
        workshop.ask(0, 0)
        self.assertEqual(workshop.kept()[:3], ("none", 0, []))


class WalkTest(unittest.TestCase):
    """Workshops that are changed and asked at random."""

    TASKS = [
        (NUMBERS, 5, [(-1,), (0,), (1,), (4,)], [-1, 0, 1, 2, 5], [GREATER, ("is_even", X1), ("equal", X1, X0), TRUE]),
        (CHOICES, 5, [(True, 0), (False, 3), (True, 3)], [0, 3, -3], [TRUE, ("less", ("input", 2), X1), X0]),
        (CONSTANTS, 5, [()], [3, 1, 9, 2, -2], [("less", X0, ("constant", 5)), ("is_even", X0), TRUE]),
    ]

    def walk(self, seed):
        chance = random.Random(seed)
        task, most, rows, values, properties = self.TASKS[seed % len(self.TASKS)]
        workshop = Workshop(task)
        for _ in range(25):
            kept = workshop.kept()
            if chance.random() < 0.4:
                self.question(workshop, chance.randrange(most + 1), chance.choice([0, 2, 5, MANY]), most)
                continue
            change = chance.randrange(6)
            if change <= 1 and len(workshop.examples()) < 3:
                workshop.add_example(chance.choice(rows), chance.choice(values))
            elif change == 2 and len(workshop.properties()) < 3:
                workshop.add_property(chance.choice(properties))
            elif change == 3 and workshop.examples():
                workshop.drop_example(chance.choice(workshop.examples())[0])
            elif change == 4 and workshop.properties():
                workshop.drop_property(chance.choice(workshop.properties())[0])
            elif change == 5:
                columns = [list(column) for column in zip(*rows)]
                workshop.set_box([chance.sample(column, chance.randrange(len(column) + 1)) for column in columns])
            stays = kept is not None and accepts(workshop.goal(), kept)
            self.assertEqual(exactly(workshop.kept()), exactly(kept if stays else None))
            yield stays

    def question(self, workshop, cost, steps, most):
        goal, kept = workshop.goal(), workshop.kept()
        answer = workshop.ask(cost, steps)
        if kept and (kept[1] >= cost if kept[0] == "none" else goal.task().cost(kept[1]) <= cost):
            self.assertEqual(exactly(answer), exactly(kept))
        else:
            search = Search(goal, cost)
            search.run(steps)
            self.assertEqual(exactly(answer), exactly(search.answer()))
        self.assertEqual(exactly(workshop.kept()), exactly(kept if answer == OPEN else answer))
        # Point 98: the answer is true, and so no other workshop with this goal contradicts it.
        least = least_fitting(goal, most)
        if answer[0] == "least":
            self.assertEqual(exactly(answer[1]), exactly(least))
        if answer[0] == "none":
            self.assertTrue(least is None or goal.task().cost(least) > answer[1])
        if answer != OPEN:
            self.assertIs(accepts(goal, answer), True)
            fresh = filled(goal).ask(answer[1] if answer[0] == "none" else cost, MANY)
            self.assertEqual(exactly(fresh[:2]), exactly(answer[:2]))

    def test_walks(self):
        stayed = [stays for seed in range(60) for stays in self.walk(seed)]
        self.assertGreater(stayed.count(True), 50)
        self.assertGreater(stayed.count(False), 50)

    def test_samples(self):
        for goal, most in GOALS:
            workshop = filled(goal)
            self.assertEqual(workshop.goal().examples(), goal.examples())
            answer = workshop.ask(most, MANY)
            self.assertIs(accepts(goal, answer), True)
            if answer[0] == "least":
                self.assertTrue(fits(goal, answer[1]))
            self.assertEqual(example_clues(workshop.goal()), example_clues(goal))


if __name__ == "__main__":
    unittest.main()
