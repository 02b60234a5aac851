"""The workshop: a goal that changes, and the answers to questions about it."""

from leastfit.checker import still_accepts
from leastfit.errors import NotFound
from leastfit.goals import Goal
from leastfit.search import Search


class Workshop:
    """A task with numbered examples, numbered properties and a box, which keeps the last answer that holds."""

    def __init__(self, task):
        self._task = task
        # Tuples (number, row, value) and (number, program) of what stands, by ascending numbers.
        self._examples = []
        self._properties = []
        self._next_example = 0
        self._next_property = 0
        self._goal = Goal(task, [], [], [[] for kind in task.kinds()])
        self._kept = None

    def add_example(self, row, value):
        """Add an example and return its number. Raise what Goal raises for the new goal."""
        number = self._next_example
        self._change([*self._examples, (number, row, value)], self._properties, self._goal.box())
        self._next_example = number + 1
        return number

    def add_property(self, program):
        """Add a property and return its number. Raise what Goal raises for the new goal."""
        number = self._next_property
        self._change(self._examples, [*self._properties, (number, program)], self._goal.box())
        self._next_property = number + 1
        return number

    def drop_example(self, number):
        """Drop the example of this number and return it, a tuple (row, value). Raise NotFound."""
        _, row, value = _numbered(self._examples, number)
        others = [example for example in self._examples if example[0] != number]
        self._change(others, self._properties, self._goal.box())
        return (row, value)

    def drop_property(self, number):
        """Drop the property of this number and return it. Raise NotFound."""
        _, program = _numbered(self._properties, number)
        others = [numbered for numbered in self._properties if numbered[0] != number]
        self._change(self._examples, others, self._goal.box())
        return program

    def set_box(self, box):
        """Set the box and return the earlier one. Raise what Goal raises for the new goal."""
        earlier = self._goal.box()
        self._change(self._examples, self._properties, box)
        return earlier

    def task(self):
        """Return the task."""
        return self._task

    def examples(self):
        """Return the list of the standing examples, as tuples (number, row, value), by ascending numbers."""
        return list(self._examples)

    def properties(self):
        """Return the list of the standing properties, as tuples (number, program), by ascending numbers."""
        return list(self._properties)

    def box(self):
        """Return the box."""
        return self._goal.box()

    def next_numbers(self):
        """Return the tuple of the numbers that the next added example and the next added property get."""
        return (self._next_example, self._next_property)

    def goal(self):
        """Return the goal."""
        return self._goal

    def kept(self):
        """Return the kept answer, or None."""
        return None if self._kept is None else _copied(self._kept)

    def ask(self, greatest_cost, steps):
        """Return the kept answer if it answers the question, or else that of a search of at most this many steps."""
        if self._kept is not None and self._answers(greatest_cost):
            return _copied(self._kept)
        search = Search(self._goal, greatest_cost)
        search.run(steps)
        answer = search.answer()
        if answer != ("open",):
            self._kept = _copied(answer)
        return answer

    def restore(self, examples, properties, box, next_numbers):
        """Make this what stands, the box and the next numbers, as the methods above tell them. Keep no answer."""
        self._change(examples, properties, box)
        self._next_example, self._next_property = next_numbers
        self._kept = None

    def _answers(self, greatest_cost):
        word, subject = self._kept[0], self._kept[1]
        if word == "none":
            return subject >= greatest_cost
        return self._task.cost(subject) <= greatest_cost

    def _change(self, examples, properties, box):
        """Make this what stands and the box, and forget the kept answer if it does not hold any more."""
        plain_examples = [(row, value) for number, row, value in examples]
        plain_properties = [program for number, program in properties]
        # The goal refuses what is wrong before anything has changed.
        self._goal = Goal(self._task, plain_examples, plain_properties, box)
        self._examples = list(examples)
        self._properties = list(properties)
        if self._kept is not None and not still_accepts(self._goal, self._kept):
            self._kept = None


def _numbered(things, number):
    """Return the tuple that begins with this number. Raise NotFound."""
    for numbered in things:
        if numbered[0] == number:
            return numbered
    raise NotFound(number)


def _copied(certificate):
    word, subject, clues, lines = certificate
    return (word, subject, list(clues), {kind: list(lines[kind]) for kind in lines})
