"""What the document promises over the whole program (points 1 to 3), for tasks and goals made at random."""

import random
import unittest

from enumeration import programs_of
from leastfit.checker import accepts
from leastfit.components import argument_kinds, names, result_kind
from leastfit.goals import Goal
from leastfit.meaning import run
from leastfit.notation import read_program, write_program
from leastfit.saving import read_workshop, write_workshop
from leastfit.search import Search
from leastfit.simplify import simplify
from leastfit.tasks import Task
from leastfit.workshop import Workshop
from samples import KINDS, exactly, fits, least_fitting

MANY = 10 ** 6
VALUES = {
    "number": [0, 1, -1, 2, 3, 10, 1000000], "truth": [True, False], "text": ["", "a", "ab", "12", "b a"],
    "list": [(), (1,), (2, 1), (0, 3, 3), (1000000, 5)],
}
MOST_PROGRAMS = 1500


def random_task(chance):
    kinds = [chance.choice(KINDS) for _ in range(chance.randrange(4))]
    constants = {}
    for _ in range(chance.randrange(1, 4)):
        value = chance.choice(VALUES[chance.choice(KINDS)])
        constants[exactly(value)] = (value, chance.randrange(1, 4))
    known = set(kinds) | {"number"}
    fitting = [name for name in names() if set(argument_kinds(name)) <= known]
    chosen = chance.sample(fitting, min(len(fitting), chance.randrange(1, 6)))
    result = chance.choice([result_kind(name) for name in chosen])
    costs = [(name, chance.randrange(1, 4)) for name in chosen]
    return Task(kinds, result, costs, list(constants.values()), input_cost=chance.randrange(1, 3))


def random_row(chance, kinds):
    return tuple([chance.choice(VALUES[kind]) for kind in kinds])


def random_property(chance, task):
    """A property that compares the result with something, so that now and then a program has it."""
    result = task.result()
    last = f"x{len(task.kinds())}"
    same = {"number": "equal", "truth": "either", "text": "same_text", "list": "same_list"}[result]
    others = [f"x{index}" for index, kind in enumerate(task.kinds()) if kind == result]
    others += {"number": ["0", "(neg 1)"], "truth": ["false"], "text": ['""'], "list": ["[]", "(rest [1 2])"]}[result]
    text = f"({same} {chance.choice(others)} {last})"
    if chance.random() < 0.6:
        text = f"(negate {text})"
    return read_program(task.kinds() + [result], text)


def random_goal(chance, task, programs):
    kinds = task.kinds()
    hidden = chance.choice(programs)
    examples = []
    for _ in range(chance.randrange(3)):
        row = random_row(chance, kinds)
        value = run(hidden, row)
        if value is None or chance.random() < 0.1:
            value = chance.choice(VALUES[task.result()])
        examples.append((row, value))
    properties = [random_property(chance, task) for _ in range(chance.randrange(3))]
    box = [chance.choices(VALUES[kind], k=chance.randrange(4)) for kind in kinds]
    return Goal(task, examples, properties, box)


def random_goals(many, seed):
    """Goals, each with a cost up to which not too many programs of its task are to be looked at."""
    chance = random.Random(seed)
    made = []
    while len(made) < many:
        task = random_task(chance)
        most = 1
        while most < 8 and sum(len(programs_of(task, cost)) for cost in range(1, most + 2)) <= MOST_PROGRAMS:
            most += 1
        programs = [program for cost in range(1, most + 1) for kind, program in programs_of(task, cost)
                    if kind == task.result()]
        if programs:
            made.append((random_goal(chance, task, programs), most))
    return made


GOALS = random_goals(250, 1)


class WholeTest(unittest.TestCase):

    def test_goals_are_of_all_sorts(self):
        found = [least_fitting(goal, most) for goal, most in GOALS]
        self.assertGreater(len([one for one in found if one is None]), 50)
        self.assertGreater(len([one for one in found if one is not None and one[0] not in ("input", "constant")]), 40)
        self.assertEqual({goal.task().result() for goal, _ in GOALS}, set(KINDS))

    def test_answers(self):
        for goal, most in GOALS:
            search = Search(goal, most)
            search.run(MANY)
            answer = search.answer()
            least = least_fitting(goal, most)
            if answer[0] == "open":
                self.assertEqual(search.status(), "large")
            elif answer[0] == "least":
                self.assertEqual(exactly(answer[1]), exactly(least))
                self.assertTrue(fits(goal, answer[1]))
                self.assertIsNone(goal.failure(answer[1]))
            else:
                self.assertEqual(answer[:2], ("none", most))
                self.assertIsNone(least)
            self.assertIs(accepts(goal, answer), answer[0] != "open")

    def test_answers_that_are_not_true(self):
        for goal, most in GOALS:
            search = Search(goal, most)
            search.run(MANY)
            if search.status() == "large":
                continue
            word, subject, clues, lines = search.answer()
            task, least = goal.task(), least_fitting(goal, most)
            for kind in KINDS:
                for program, _ in lines[kind][:30]:
                    if exactly(program) != exactly(least):
                        self.assertIs(accepts(goal, ("least", program, clues, lines)), False)
            for cost in range(most + 1):
                if word == "least" and cost >= task.cost(least):
                    self.assertIs(accepts(goal, ("none", cost, clues, lines)), False)

    def test_goals_that_change(self):
        # The examples and properties of all goals come one after the other, and half of them are dropped again.
        chance = random.Random(2)
        for goal, most in GOALS[::3]:
            workshop = Workshop(goal.task())
            changes = [(workshop.add_example, example) for example in goal.examples() * 2]
            changes += [(workshop.add_property, (program,)) for program in goal.properties()]
            changes += [(workshop.set_box, (goal.box(),)), (workshop.set_box, ([[] for _ in goal.box()],))]
            chance.shuffle(changes)
            for change, arguments in changes:
                number = change(*arguments)
                if change == workshop.add_example and chance.random() < 0.5:
                    workshop.drop_example(number)
                self.same_as_new(workshop, most, chance.choice([2, 5, MANY]))

    def same_as_new(self, workshop, most, steps):
        answer = workshop.ask(most, steps)
        read = read_workshop(write_workshop(workshop))
        fresh = read.ask(most, MANY)
        if "open" not in (answer[0], fresh[0]):
            self.assertEqual(exactly(answer[:2]), exactly(fresh[:2]))
        for one in (answer, fresh):
            self.assertIs(accepts(workshop.goal(), one), one[0] != "open")

    def test_simplified_answers_fit(self):
        for goal, most in GOALS:
            least = least_fitting(goal, most)
            if least is not None:
                self.assertTrue(fits(goal, simplify(least)))
                self.assertEqual(exactly(read_program(goal.task().kinds(), write_program(least))), exactly(least))


if __name__ == "__main__":
    unittest.main()
