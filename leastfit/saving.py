"""Saving: the written form of a workshop, a list of lines."""

from leastfit.components import is_component
from leastfit.errors import InvalidProgram, Malformed
from leastfit.goals import MOST_BOX_ROWS, MOST_EXAMPLES, MOST_PROPERTIES, count_rows, property_kinds
from leastfit.notation import read_program, write_program
from leastfit.programs import program_kind
from leastfit.tasks import MOST_COMPONENTS, MOST_CONSTANTS, MOST_COST, MOST_INPUTS, Task
from leastfit.values import DIGITS, KINDS, is_value, kind_of_value, read_value, write_value
from leastfit.workshop import Workshop


class Reader:
    """Lines that are read one after the other. What is wrong is told by the index of the present line."""

    def __init__(self, lines):
        self._lines = list(lines)
        self._index = 0

    def require(self, holds):
        """Raise Malformed for the present line if something does not hold that must hold for it."""
        if not holds:
            raise Malformed(self._index)

    def is_at_end(self):
        """Return True if no line is left."""
        return self._index == len(self._lines)

    def advance(self):
        """Go on to the next line."""
        self._index += 1

    def begins(self, word):
        """Return True if the present line begins with this word and a space."""
        return not self.is_at_end() and self._lines[self._index].startswith(word + " ")

    def words(self):
        """Return the list of the words of the present line, between which there is one space."""
        self.require(not self.is_at_end())
        return self._lines[self._index].split(" ")

    def behind(self, word):
        """Return the text of the present line behind this word and a space."""
        self.require(self.begins(word))
        return self._lines[self._index][len(word) + 1:]

    def halves_behind(self, word):
        """Return the texts before and behind the next space behind this word and a space."""
        # Without such a space the second text is empty, which is the written form of nothing.
        first, _, second = self.behind(word).partition(" ")
        return first, second

    def number_in(self, text):
        """Return the number that is written in decimal digits without leading zeros."""
        self.require(text != "" and all(sign in DIGITS for sign in text))
        self.require(text == "0" or text[0] != "0")
        return int(text)

    def cost_in(self, text):
        """Return the cost of a symbol."""
        number = self.number_in(text)
        self.require(1 <= number <= MOST_COST)
        return number

    def value_in(self, text):
        """Return the value of any kind."""
        try:
            return read_value(text)
        except Malformed:
            raise Malformed(self._index) from None

    def value_of_kind(self, kind, text):
        """Return the value of this kind."""
        value = self.value_in(text)
        self.require(is_value(kind, value))
        return value

    def truth_program_in(self, kinds, text):
        """Return the program of kind "truth"."""
        try:
            program = read_program(kinds, text)
        except (Malformed, InvalidProgram):
            raise Malformed(self._index) from None
        self.require(program_kind(kinds, program) == "truth")
        return program


def write_workshop(workshop):
    """Return the list of the lines of the written form."""
    lines = _task_lines(workshop.task())
    for index, values in enumerate(workshop.box()):
        lines.extend([f"box {index} {write_value(value)}" for value in values])
    for number, row, value in workshop.examples():
        lines.append(f"example {number}")
        lines.extend([f"row {write_value(given)}" for given in row])
        lines.append(f"value {write_value(value)}")
    for number, program in workshop.properties():
        lines.append(f"property {number} {write_program(program)}")
    next_example, next_property = workshop.next_numbers()
    lines.append(f"next {next_example} {next_property}")
    return lines


def read_workshop(lines):
    """Return a workshop with this written form, which keeps no answer. Raise Malformed."""
    reader = Reader(lines)
    task = _read_task(reader)
    box = _read_box(reader, task.kinds())
    examples = _read_examples(reader, task)
    properties = _read_properties(reader, property_kinds(task))
    next_numbers = _read_next_numbers(reader, examples, properties)
    reader.require(reader.is_at_end())
    workshop = Workshop(task)
    workshop.restore(examples, properties, box, next_numbers)
    return workshop


def _task_lines(task):
    lines = [" ".join(["kinds"] + task.kinds()), f"result {task.result()}", f"input {task.input_cost()}"]
    lines.extend([f"component {name} {cost}" for name, cost in task.costs()])
    lines.extend([f"constant {cost} {write_value(value)}" for value, cost in task.constants()])
    return lines


def _read_task(reader):
    kinds = _read_kinds(reader)
    result = reader.behind("result")
    reader.require(result in KINDS)
    reader.advance()
    input_cost = reader.cost_in(reader.behind("input"))
    reader.advance()
    costs = _read_components(reader)
    constants = _read_constants(reader)
    return Task(kinds, result, costs, constants, input_cost=input_cost)


def _read_kinds(reader):
    words = reader.words()
    kinds = words[1:]
    reader.require(words[0] == "kinds" and len(kinds) <= MOST_INPUTS and all(kind in KINDS for kind in kinds))
    reader.advance()
    return kinds


def _read_components(reader):
    costs = []
    # A task has at least one component.
    while not costs or reader.begins("component"):
        name, text = reader.halves_behind("component")
        reader.require(len(costs) < MOST_COMPONENTS and is_component(name))
        reader.require(name not in [earlier for earlier, cost in costs])
        costs.append((name, reader.cost_in(text)))
        reader.advance()
    return costs


def _read_constants(reader):
    constants = []
    # For Python, 1 and True are equal, so that the kinds are compared too.
    keys = []
    while reader.begins("constant"):
        price, text = reader.halves_behind("constant")
        value = reader.value_in(text)
        key = (kind_of_value(value), value)
        reader.require(len(constants) < MOST_CONSTANTS and key not in keys)
        constants.append((value, reader.cost_in(price)))
        keys.append(key)
        reader.advance()
    return constants


def _read_box(reader, kinds):
    box = [[] for kind in kinds]
    latest = 0
    while reader.begins("box"):
        place, text = reader.halves_behind("box")
        index = reader.number_in(place)
        reader.require(latest <= index < len(kinds))
        box[index].append(reader.value_of_kind(kinds[index], text))
        # There are no rows before the lines of the last input, and these come last.
        reader.require(count_rows(box) <= MOST_BOX_ROWS)
        latest = index
        reader.advance()
    return box


def _read_examples(reader, task):
    examples = []
    while reader.begins("example"):
        number = _read_next_standing(reader, reader.behind("example"), examples, MOST_EXAMPLES)
        reader.advance()
        row = [_read_value_line(reader, "row", kind) for kind in task.kinds()]
        value = _read_value_line(reader, "value", task.result())
        examples.append((number, tuple(row), value))
    return examples


def _read_value_line(reader, word, kind):
    value = reader.value_of_kind(kind, reader.behind(word))
    reader.advance()
    return value


def _read_properties(reader, kinds):
    properties = []
    while reader.begins("property"):
        place, text = reader.halves_behind("property")
        number = _read_next_standing(reader, place, properties, MOST_PROPERTIES)
        properties.append((number, reader.truth_program_in(kinds, text)))
        reader.advance()
    return properties


def _read_next_standing(reader, text, standing, most):
    """Return the number of one more example or property behind those that stand."""
    number = reader.number_in(text)
    reader.require(len(standing) < most and number >= _least_next(standing))
    return number


def _read_next_numbers(reader, examples, properties):
    first, second = reader.halves_behind("next")
    next_example = reader.number_in(first)
    next_property = reader.number_in(second)
    reader.require(_may_be_next(next_example, examples, MOST_EXAMPLES))
    reader.require(_may_be_next(next_property, properties, MOST_PROPERTIES))
    reader.advance()
    return (next_example, next_property)


def _may_be_next(number, standing, most):
    if len(standing) == most:
        # Nothing can have been added behind the last one and dropped again.
        return number == _least_next(standing)
    return number >= _least_next(standing)


def _least_next(standing):
    """Return the least number behind those of the examples or properties that stand."""
    return standing[-1][0] + 1 if standing else 0
