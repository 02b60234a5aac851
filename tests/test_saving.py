"""Saving: the written form of a workshop and reading it (points 105 and 106)."""

import itertools
import random
import unittest

from leastfit.errors import LeastError, Malformed
from leastfit.notation import read_program, write_program
from leastfit.saving import read_workshop, write_workshop
from leastfit.tasks import Task
from leastfit.workshop import Workshop
from samples import CONSTANTS, GOALS, NUMBERS, PAIRS, exactly

X0, X1 = ("input", 0), ("input", 1)
TRUE = ("constant", True)
KINDS = ["number", "truth", "text", "list"]

ALL = Task(
    KINDS, "list", [("add_each", 2), ("zip_add", 9)],
    [(1, 3), (True, 1), ("a b", 2), ((), 9), (0, 1), (False, 1)], input_cost=4,
)


def filled(task, examples=(), properties=(), box=None, dropped=(), dropped_properties=()):
    workshop = Workshop(task)
    for row, value in examples:
        workshop.add_example(row, value)
    for text in properties:
        workshop.add_property(read_program(task.kinds() + [task.result()], text))
    if box is not None:
        workshop.set_box(box)
    for number in dropped:
        workshop.drop_example(number)
    for number in dropped_properties:
        workshop.drop_property(number)
    return workshop


def full():
    """A workshop of all kinds, of which something was dropped."""
    rows = [(number, number > 0, "x y", (number, -number)) for number in (-5, 0, 1000000, 3)]
    return filled(
        ALL, [(row, (index,)) for index, row in enumerate(rows)],
        ["true", "(same_list x4 x3)", '(contains x2 " ")'],
        [[3, -1, 3], [True], ["", " a"], [(), (1, 2)]], [1, 3], [0],
    )


FULL = [
    "kinds number truth text list", "result list", "input 4", "component add_each 2", "component zip_add 9",
    "constant 3 1", "constant 1 true", 'constant 2 "a b"', "constant 9 []", "constant 1 0", "constant 1 false",
    "box 0 3", "box 0 -1", "box 0 3", "box 1 true", 'box 2 ""', 'box 2 " a"', "box 3 []", "box 3 [1 2]",
    "example 0", "row -5", "row false", 'row "x y"', "row [-5 5]", "value [0]",
    "example 2", "row 1000000", "row true", 'row "x y"', "row [1000000 -1000000]", "value [2]",
    "property 1 (same_list x4 x3)", 'property 2 (contains x2 " ")', "next 4 3",
]
SMALL = ["kinds", "result truth", "input 1", "component neg 9", "next 0 0"]


def shown(workshop):
    """All that is saved of a workshop."""
    task = workshop.task()
    return exactly((
        task.kinds(), task.result(), task.costs(), task.constants(), task.input_cost(), workshop.examples(),
        workshop.properties(), workshop.box(), workshop.next_numbers(),
    ))


def workshops():
    """Workshops of all sorts."""
    yield full()
    yield Workshop(ALL)
    for goal, _ in GOALS:
        written = [write_program(program) for program in goal.properties()]
        examples = goal.examples()
        yield filled(goal.task(), examples, written, goal.box())
        yield filled(goal.task(), examples, written, goal.box(), range(len(examples)), range(len(written)))
    yield filled(NUMBERS, [((number,), number) for number in range(20)], ["true"] * 4, [[7]])
    twenty = filled(NUMBERS, [((number,), number) for number in range(20)], ["true"] * 4, None, [3, 5], [2, 0])
    twenty.add_example((1,), 1)
    yield twenty
    twenty.add_example((1,), 1)
    twenty.add_property(TRUE)
    twenty.add_property(TRUE)
    yield twenty
    yield filled(NUMBERS, box=[list(range(2000))])
    yield filled(PAIRS, box=[list(range(40)), list(range(50))])
    yield filled(PAIRS, box=[list(range(3000)), []])
    yield filled(PAIRS, box=[[], list(range(3000))])
    costs = ["abs", "add", "at", "both", "choose_list", "concat", "double", "equal", "words", "zip_add", "up_to", "sum"]
    yield Workshop(Task([], "text", [(name, 9) for name in costs], []))


class WriteTest(unittest.TestCase):

    def test_all_lines(self):
        self.assertEqual(write_workshop(full()), FULL)

    def test_least_lines(self):
        self.assertEqual(write_workshop(Workshop(Task([], "truth", [("neg", 9)], []))), SMALL)

    def test_list_is_new_and_workshop_not_modified(self):
        workshop = full()
        workshop.ask(2, 5)
        before = shown(workshop), exactly(workshop.kept())
        write_workshop(workshop).clear()
        self.assertEqual(write_workshop(workshop), FULL)
        self.assertEqual((shown(workshop), exactly(workshop.kept())), before)


class ReadTest(unittest.TestCase):

    def test_written_forms(self):
        for workshop in workshops():
            lines = write_workshop(workshop)
            read = read_workshop(lines)
            self.assertIsInstance(read, Workshop)
            self.assertEqual(shown(read), shown(workshop))
            self.assertEqual(write_workshop(read), lines)
            self.assertIsNone(read.kept())

    def test_kept_answers_are_not_saved(self):
        workshop = filled(NUMBERS, [((1,), 2)])
        self.assertEqual(workshop.ask(9, 100)[0], "least")
        read = read_workshop(write_workshop(workshop))
        self.assertIsNone(read.kept())
        self.assertEqual(read.ask(9, 0), ("open",))
        self.assertEqual(exactly(read.ask(9, 100)), exactly(workshop.kept()))

    def test_what_is_read_can_be_changed(self):
        read = read_workshop(FULL)
        self.assertEqual(read.add_example((1, True, "", ()), ()), 4)
        self.assertEqual(read.add_property(TRUE), 3)
        self.assertEqual(read.drop_example(2), ((1000000, True, "x y", (1000000, -1000000)), (2,)))
        self.assertEqual(read.set_box([[], [], [], []])[0], [3, -1, 3])
        self.assertEqual([number for number, _, _ in read.examples()], [0, 4])
        self.assertEqual(read.goal().examples()[1], ((1, True, "", ()), ()))

    def test_great_numbers(self):
        great, greater = "9" * 900, "1" + "0" * 900
        lines = SMALL[:-1] + [f"example {great}", "value true", f"property {great} x0", f"next {greater} {greater}"]
        self.assertEqual(write_workshop(read_workshop(lines)), lines)
        self.assertEqual(read_workshop(lines).examples(), [(int(great), (), True)])
        self.assertEqual(read_workshop(lines).add_example((), False), int(great) + 1)

    def test_arguments_are_not_modified(self):
        for lines in (FULL, SMALL, FULL[:-1], FULL + ["next 4 3"]):
            given = list(lines)
            try:
                read_workshop(given).add_example((), True)
            except LeastError:
                pass
            self.assertEqual(given, lines)
        given = list(FULL)
        read = read_workshop(given)
        given.clear()
        self.assertEqual(write_workshop(read), FULL)


class MalformedTest(unittest.TestCase):

    def refuse(self, lines, index):
        with self.assertRaises(Malformed) as caught:
            read_workshop(lines)
        self.assertEqual(caught.exception.index, index, lines[index:index + 1])

    def instead(self, index, wrong, lines=FULL):
        """Each of the wrong lines, between which there is a bar, is refused at the index, whatever follows."""
        for line in wrong.split("|"):
            with self.subTest(line=line, index=index):
                self.refuse(lines[:index] + [line] + lines[index + 1:], index)
                self.refuse(lines[:index] + [line], index)
                self.refuse(lines[:index] + [line, "", line], index)

    def test_lines_that_end_too_early(self):
        for lines in (FULL, SMALL):
            for many in range(len(lines)):
                self.refuse(lines[:many], many)

    def test_too_many_lines(self):
        for lines in (FULL, SMALL):
            for more in ("", lines[-1], "next 9 9", "property 7 true", "kinds", " "):
                self.refuse(lines + [more], len(lines))
                self.refuse(lines + [more, more], len(lines))

    def test_lines_that_are_no_lines(self):
        for lines in (FULL, SMALL):
            for index, line in enumerate(lines):
                self.instead(
                    index, "| |kind|Kinds|results|x|0|next|box|example|row|value|#|component|constant|property|input|"
                    f"{line} | {line}|{line}x|{line.upper()}|{line[1:]}|{line}\t|{line.replace(' ', '  ')} ", lines,
                )
                if " " in line:
                    self.instead(index, f"{line.replace(' ', '  ')}|{line.replace(' ', chr(9))}", lines)

    def test_lines_of_the_beginning_at_another_place(self):
        for index in range(len(FULL)):
            for other in range(3):
                if other != index:
                    self.instead(index, FULL[other])
            if index < 3:
                self.instead(index, "|".join(FULL[3:]))

    def test_kinds(self):
        self.instead(
            0, "kinds  number|kinds number |kinds numbers|kinds truth Text|kinds truth,text|kinds none|kinds 1|kinds x|"
            "kinds number number number number number|kinds number truth text list 1|Kinds number|kindsnumber|"
            "result list| kinds|kinds\tnumber|kinds [number]",
        )
        for kinds in itertools.chain(*[itertools.product(KINDS, repeat=many) for many in range(5)]):
            lines = [" ".join(("kinds",) + kinds)] + SMALL[1:]
            self.assertEqual(read_workshop(lines).task().kinds(), list(kinds))

    def test_result(self):
        self.instead(1, "result|result |result none|result List|result number text|kinds list|resultlist|result 1")
        for kind in KINDS:
            self.assertEqual(read_workshop([SMALL[0], f"result {kind}"] + SMALL[2:]).task().result(), kind)

    def test_input(self):
        self.instead(
            2, "input|input |input 0|input 10|input -1|input 01|input 1 |input x|input 1.0|input +1|input 1_|input 44|"
            f"input  4|input {'9' * 1000}|input \u0661|input \u00b2",
        )
        for cost in range(1, 10):
            self.assertEqual(read_workshop(SMALL[:2] + [f"input {cost}"] + SMALL[3:]).task().input_cost(), cost)

    def test_components(self):
        for index in (3, 4):
            self.instead(
                index, "component|component |component add|component add |component  add 1|component add 0|"
                "component add 10|component add 01|component add -1|component add 1 1|component add 1 |"
                "component wish 1|component Add 1|component input 1|component constant 1|component 1 add|"
                f"component add x|component  1|component (add) 1|component add {'1' * 1500}|component add \u0661",
            )
        # A task has a component.
        self.instead(3, "constant 1 1|box 0 1|example 0|property 0 true|next 0 0")
        self.instead(4, "component add_each 2|component add_each 3")
        self.instead(5, "component zip_add 1|component add_each 2")

    def test_many_components(self):
        some = "abs add at both concat double drop either equal first half is_even".split()
        lines = SMALL[:3] + [f"component {name} 1" for name in some] + SMALL[4:]
        self.assertEqual(len(read_workshop(lines).task().costs()), 12)
        self.instead(15, "component join 1", lines)
        self.refuse(lines[:15] + ["component join 1"] + lines[15:], 15)

    def test_constants(self):
        for index in range(5, 11):
            self.instead(
                index, "constant|constant |constant 1|constant 1 |constant  1 2|constant 0 7|constant 10 7|constant 7|"
                "constant 01 7|constant -1 7|constant 1 07|constant 1 7 |constant 1 1000001|constant 1 -0|"
                'constant 1 x0|constant 1 "A"|constant 1 "a|constant 1 [1  2]|constant 1 [1,2]|constant 1 True|'
                'constant 1 None|constant 1 (neg 1)|constant \u0661 7|constant 1 \u0661|constant 1"a"',
            )
        self.instead(6, "constant 1 1|constant 3 1")
        self.instead(7, "constant 1 1|constant 2 true")
        self.instead(10, 'constant 1 []|constant 1 0|constant 1 "a b"|constant 9 1')
        # The seventh one.
        self.instead(11, "constant 1 7|constant 1 2|constant 1 false")
        lines = SMALL[:4] + ["constant 1 1", "constant 1 true", "constant 1 0", "constant 1 false", "next 0 0"]
        self.assertEqual(exactly(read_workshop(lines).task().constants()), "[(1, 1), (True, 1), (0, 1), (False, 1)]")

    def test_box(self):
        for index in range(11, 19):
            self.instead(
                index, "box|box |box 0|box 3|box 3 |box  3 []|box 3  []|box 4 1|box -1 3|box 00 3|box 03 []|box 3 [] |"
                "box 3 1|box 3 true|box 3 [1000001]|box 3 [1 2|box 10 1|box x 1|box 3[]|box 3 x3|box \u0663 []|"
                f"box {'9' * 1500} 1",
            )
        self.instead(11, 'box 0 true|box 0 1000001|box 0 -1000001|box 0 "3"|box 0 [3]|box 0 01|box 0 -0')
        self.instead(14, 'box 1 1|box 1 0|box 1 True|box 1 "true"')
        self.instead(15, f'box 2 "A"|box 2 a|box 2 "{"a" * 31}"|box 2 5')
        # The indexes ascend.
        self.instead(15, "box 0 3")
        self.instead(18, 'box 0 3|box 1 true|box 2 ""')
        self.instead(4, "box 0 1|box 0 true", SMALL)
        # Indexes may be left out.
        lines = FULL[:11] + FULL[17:]
        self.assertEqual(read_workshop(lines).box(), [[], [], [], [(), (1, 2)]])

    def test_too_many_rows_of_one_input(self):
        start = ["kinds number", "result truth", "input 1", "component neg 9"]
        lines = start + ["box 0 5"] * 2000
        self.assertEqual(len(read_workshop(lines + ["next 0 0"]).goal().rows()), 2000)
        self.refuse(lines + ["box 0 5", "next 0 0"], 2004)
        self.refuse(lines + ["box 0 5"] * 10, 2004)
        self.refuse(lines + ["box 0 true"], 2004)
        self.refuse(lines, 2004)

    def test_too_many_rows_of_several_inputs(self):
        start = ["kinds number text number", "result truth", "input 1", "component neg 9"]
        many = start + ["box 0 5"] * 50 + ['box 1 "a"'] * 30
        # 1500 rows, and 3000 rows.
        self.assertEqual(len(read_workshop(many + ["box 2 1", "next 0 0"]).goal().rows()), 1500)
        self.refuse(many + ["box 2 1", "box 2 1", "next 0 0"], 85)
        self.refuse(many + ["box 2 1"] * 5, 85)
        # Without a value for the last input there are no rows.
        too_many = start + ["box 0 5"] * 70 + ['box 1 "a"'] * 30
        self.assertEqual(read_workshop(too_many + ["next 0 0"]).goal().rows(), [])
        self.refuse(too_many + ["box 2 1", "next 0 0"], 104)
        self.refuse(too_many, 104)
        for gap in (start + ["box 0 5"] * 70, start + ['box 1 "a"'] * 70):
            lines = gap + ["box 2 1"] * 2500 + ["next 0 0"]
            self.assertEqual(read_workshop(lines).goal().rows(), [])
        last = start + ["box 0 5", 'box 1 "a"'] + ["box 2 1"] * 2000
        self.assertEqual(len(read_workshop(last + ["next 0 0"]).goal().rows()), 2000)
        self.refuse(last + ["box 2 1", "next 0 0"], 2006)

    def test_examples(self):
        self.instead(
            19, "example|example |example 00|example -1|example x|example 0 |example 0 0|example  0|example +1|"
            "examples 0|example 1.|example \u0661|row -5|value [0]",
        )
        self.instead(25, "example 0|example 00|example 02|example -1|row 5|value [0]|row 1000000")
        for index in (20, 26):
            self.instead(
                index, "row|row |row true|row 1000001|row 01|row -0|row  5|row 5 |row x0|value 5|value [0]|example 2|"
                'next 4 3|row [5]|row "5"|property 1 true',
            )
        for index in (21, 27):
            self.instead(index, 'row 1|row 0|row True|row|row "true"|value true|row [true]')
        for index in (22, 28):
            self.instead(index, f'row "A"|row x y|row "x y|row "{"x" * 31}"|row 5|row []|value "x y"')
        for index in (23, 29):
            self.instead(
                index, "row 5|row [true]|row [5|row [1000001]|row [1 2 3 4 5 6 7 8 9 10 11 12 13]|value [5]|row ()",
            )
        for index in (24, 30):
            self.instead(
                index, "value|value |value 0|value true|value [0] |row [0]|example 3|next 4 3|value [true]|value  [0]|"
                "values [0]",
            )

    def test_numbers_of_examples(self):
        row = ["row 1", "value 1"]
        start = ["kinds number", "result number", "input 1", "component neg 9"]
        for numbers in ((0,), (5,), (0, 1), (0, 7, 8), (3, 10 ** 20)):
            lines = start + [line for number in numbers for line in [f"example {number}"] + row]
            self.assertEqual(read_workshop(lines + [f"next {numbers[-1] + 1} 0"]).next_numbers(), (numbers[-1] + 1, 0))
            for number in range(min(numbers[-1], 10) + 1):
                self.refuse(lines + [f"example {number}"] + row, len(lines))
                self.refuse(lines + [f"next {number} 0"], len(lines))

    def test_twenty_examples(self):
        row = ["row 1", "value 1"]
        start = ["kinds number", "result number", "input 1", "component neg 9"]
        lines = start + [line for number in range(3, 42, 2) for line in [f"example {number}"] + row]
        self.assertEqual(len(lines), 64)
        read = read_workshop(lines + ["next 42 0"])
        self.assertEqual(len(read.examples()), 20)
        for number in (0, 41, 43, 44, 100):
            self.refuse(lines + [f"next {number} 0"], 64)
        for number in (42, 43, 100):
            self.refuse(lines + [f"example {number}"] + row + ["next 200 0"], 64)
        # With one less any greater number may be the next one.
        for number in (40, 41, 42, 10 ** 30):
            self.assertEqual(read_workshop(lines[:-3] + [f"next {number} 0"]).next_numbers(), (number, 0))

    def test_properties(self):
        too_deep = "(negate " * 30 + "true" + ")" * 30
        too_many = "(both " * 5 + "true" + (" (both true" * 6 + " true" + ")" * 6 + ")") * 5
        for index in (31, 32):
            self.instead(
                index, "property|property |property 2|property 2 |property  2 true|property 02 true|property true|"
                "property -1 true|property x true|property 2 x1 |property 2 x0|property 2 x2|property 2 x4|"
                "property 2 1|property 2 x5|property 2 x10|property 2 (wish x1)|property 2 (negate x0)|"
                "property 2 (negate x1 x1)|property 2 (negate  x1)|property 2 (negate x1|property 2 (negate x1))|"
                "property 2 negate x1|"
                "property 2 True|property 2 (add x0 x0)|property 2 (is_empty x2)|property 2(negate x1)|value true|"
                f"property 2 {too_deep}|property 2 {too_many}|property 2 (less x0 1000001)|property \u0662 true",
            )
        deepest = "property 1 " + "(negate " * 29 + "true" + ")" * 29
        self.assertEqual(write_workshop(read_workshop(FULL[:31] + [deepest] + FULL[32:]))[31], deepest)
        self.instead(32, "property 0 true|property 1 true|property 0 (same_list x4 x3)")
        self.instead(33, "property 2 true|property 1 true")
        # The result is the last input.
        truths = ["kinds", "result truth", "input 1", "component neg 9", "property 0 x0", "next 0 1"]
        self.assertEqual(read_workshop(truths).properties(), [(0, X0)])
        self.refuse(truths[:4] + ["property 0 x1", "next 0 1"], 4)

    def test_four_properties(self):
        lines = SMALL[:4] + [f"property {number} true" for number in (1, 3, 4, 7)]
        self.assertEqual(len(read_workshop(lines + ["next 5 8"]).properties()), 4)
        for number in (0, 7, 9, 10, 100):
            self.refuse(lines + [f"next 5 {number}"], 8)
        for number in (8, 9):
            self.refuse(lines + [f"property {number} true", "next 5 10"], 8)
        for number in (5, 6, 100):
            self.assertEqual(read_workshop(lines[:-1] + [f"next 5 {number}"]).next_numbers(), (5, number))
        for number in (0, 3, 4):
            self.refuse(lines[:-1] + [f"next 5 {number}"], 7)

    def test_next_numbers(self):
        self.instead(
            33, "next|next |next 4|next 4 |next  4 3|next 4  3|next 4 3 |next 4 3 1|next 2 3|next 0 3|next 4 2|"
            "next 4 0|next 04 3|next 4 03|next -4 3|next 4 x|next x 3|next 4,3|next 4.0 3|next 4 +3|next \u0664 3|"
            "next 4 \u0663|last 4 3|nexts 4 3",
        )
        self.instead(4, "next 00 0|next 0 00|next|next 0|next -1 0|next 0 0 0", SMALL)
        for first, second in ((3, 3), (4, 3), (5, 3), (4, 4), (1000, 10 ** 25)):
            read = read_workshop(FULL[:-1] + [f"next {first} {second}"])
            self.assertEqual(read.next_numbers(), (first, second))

    def test_order_of_the_groups(self):
        groups = {line.split(" ")[0] for line in FULL}
        order = ["component", "constant", "box", "example", "property", "next"]
        self.assertEqual(groups - set(order), {"kinds", "result", "input", "row", "value"})
        for index, line in enumerate(FULL[:-1]):
            word = line.split(" ")[0]
            if word in order:
                for earlier in FULL[3:index]:
                    place = earlier.split(" ")[0]
                    if place in order and order.index(place) < order.index(word):
                        self.instead(index + 1, earlier)

    def test_error(self):
        self.assertTrue(issubclass(Malformed, LeastError))


def ending(lines):
    """Lines with which a beginning may be the written form of a workshop, of each sort that can be needed."""
    rest = ["kinds", "result list", "input 1", "component neg 1"][len(lines):]
    words = [line.split(" ")[0] for line in lines]
    some = {"number": "0", "truth": "true", "text": '""', "list": "[]"}
    if "example" in words and words[-1] in ("example", "row"):
        kinds = [kind for line in lines[:2] for kind in line.split(" ")[1:]]
        missing = kinds[words[::-1].index("example"):]
        rest = [f"row {some.get(kind)}" for kind in missing[:-1]]
        rest += [f"value {some.get(kind)}" for kind in missing[-1:]]
    for later in range(2):
        numbers = []
        for word in ("example", "property"):
            standing = [line.split(" ")[1] for line in lines if line.startswith(word + " ")]
            numbers.append(int(standing[-1]) + 1 + later if standing and standing[-1].isdigit() else later)
        yield rest + [f"next {numbers[0]} {numbers[1]}"]
    yield rest


class BeginningsTest(unittest.TestCase):
    """The index of an error: the lines before it can go on to a written form, and with its line they cannot."""

    def can_go_on(self, lines):
        for rest in ending(lines):
            try:
                read_workshop(lines + rest)
                return True
            except Malformed:
                pass
        return False

    def test_each_beginning_can_go_on(self):
        for lines in (FULL, SMALL, *[write_workshop(workshop) for workshop in itertools.islice(workshops(), 20)]):
            for many in range(len(lines)):
                self.assertTrue(self.can_go_on(lines[:many]), lines[:many])

    def test_random_changes(self):
        chance = random.Random(5)
        read = 0
        for _ in range(6000):
            lines = list(FULL)
            for _ in range(chance.randrange(1, 3)):
                index = chance.randrange(len(lines))
                line = lines[index]
                change = chance.randrange(6)
                if change == 0:
                    del lines[index]
                elif change == 1:
                    lines.insert(index, chance.choice(FULL))
                elif change == 2:
                    lines[index] = chance.choice(FULL)
                else:
                    place = chance.randrange(len(line) + 1)
                    new = chance.choice(["", " ", *"0123456789x-[]\"()abet"])
                    lines[index] = line[:place] + new + line[place + (change == 3):]
            read += self.check(lines)
        self.assertGreater(read, 300)

    def check(self, lines):
        try:
            self.assertEqual(write_workshop(read_workshop(lines)), lines)
            return True
        except Malformed as error:
            index = error.index
        self.assertTrue(self.can_go_on(lines[:index]), lines[:index])
        if index < len(lines):
            self.assertFalse(self.can_go_on(lines[:index + 1]), lines[:index + 1])
        else:
            self.assertEqual(index, len(lines))
        return False


if __name__ == "__main__":
    unittest.main()
