"""Simplifying and the order of programs for it (points 90 to 93)."""

import itertools
import random
import unittest

from leastfit.components import argument_kinds, names, result_kind
from leastfit.meaning import run
from leastfit.notation import read_program, write_program
from leastfit.programs import program_kind, size
from leastfit.simplify import precedes, simplify
from leastfit.values import read_value

KINDS = ["number", "number", "truth", "truth", "text", "text", "list", "list"]
INPUTS = {"number": ["x0", "x1"], "truth": ["x2", "x3"], "text": ["x4", "x5"], "list": ["x6", "x7"]}
SOME = {
    "number": [0, 1, -1, 2, 7, -5, 1000000, -1000000], "truth": [True, False], "text": ["", "a", "ab 1", "0", "12"],
    "list": [(), (0,), (1,), (3, 1, 3), (-2, 4, 1000000)],
}

# The rules as point 91 writes them, rule 5 left out. x and y stand for any programs.
RULES = {
    1: [
        ("(neg (neg x))", "x"), ("(negate (negate x))", "x"), ("(reverse (reverse x))", "x"),
        ("(reverse_text (reverse_text x))", "x"),
    ],
    2: [
        ("(abs (abs x))", "(abs x)"), ("(abs (neg x))", "(abs x)"), ("(sort (sort x))", "(sort x)"),
        ("(sort (reverse x))", "(sort x)"), ("(distinct (distinct x))", "(distinct x)"),
        ("(keep_even (keep_even x))", "(keep_even x)"),
    ],
    3: [
        ("(length (reverse_text x))", "(length x)"), ("(size (reverse x))", "(size x)"),
        ("(size (sort x))", "(size x)"), ("(sum (reverse x))", "(sum x)"), ("(sum (sort x))", "(sum x)"),
        ("(product (reverse x))", "(product x)"), ("(product (sort x))", "(product x)"),
        ("(greatest (reverse x))", "(greatest x)"), ("(greatest (sort x))", "(greatest x)"),
        ("(least (reverse x))", "(least x)"), ("(least (sort x))", "(least x)"),
        ("(words (reverse_text x))", "(words x)"),
    ],
    4: [("(max x x)", "x"), ("(min x x)", "x"), ("(both x x)", "x"), ("(either x x)", "x")],
    6: [
        ("(add 0 x)", "x"), ("(mul 1 x)", "x"), ("(sub x 0)", "x"), ("(divide x 1)", "x"), ('(concat "" x)', "x"),
        ('(concat x "")', "x"), ("(join [] x)", "x"), ("(join x [])", "x"), ("(drop x 0)", "x"), ("(skip x 0)", "x"),
        ("(add_each x 0)", "x"), ("(both true x)", "x"), ("(either false x)", "x"),
    ],
}
COMMUTATIVE = ["add", "both", "either", "equal", "max", "min", "mul", "same_list", "same_text", "zip_add"]


def read(text):
    return read_program(KINDS, text)


def simplified(text):
    return write_program(simplify(read(text)))


def pattern(text):
    """A side of a rule as a program in which X stands for x."""
    if text == "x":
        return X
    if not text.startswith("("):
        return ("constant", read_value(text))
    name, _, inner = text[1:-1].partition(" ")
    if inner.startswith("("):
        return (name, pattern(inner))
    return (name, *[pattern(word) for word in inner.split(" ")])


X0 = ("input", 0)
X = ("input", 99)
PATTERNS = {number: [(pattern(left), pattern(right)) for left, right in rules] for number, rules in RULES.items()}


def match(side, program):
    """The program that x stands for, or None if the rule's side does not match. False if it leaves x free."""
    if side == X:
        return program
    if side[0] == "constant" or program[0] in ("input", "constant"):
        return False if repr(side) == repr(program) else None
    if side[0] != program[0]:
        return None
    found = [match(inner, argument) for inner, argument in zip(side[1:], program[1:])]
    if None in found:
        return None
    stands = [one for one in found if one is not False]
    return stands[0] if all(repr(one) == repr(stands[0]) for one in stands) else None


def fill(side, program):
    if side == X:
        return program
    return (side[0], *[fill(inner, program) for inner in side[1:]])


def goes_before(first, second):
    """Point 92, case by case."""
    places = [2 if program[0] not in ("constant", "input") else ("constant", "input").index(program[0])
              for program in (first, second)]
    if places[0] != places[1]:
        return places[0] < places[1]
    if places[0] == 0:
        order = ["number", "truth", "text", "list"]
        kinds = [order.index(program_kind([], program)) for program in (first, second)]
        return kinds[0] < kinds[1] if kinds[0] != kinds[1] else first[1] < second[1]
    if places[0] == 1 or first[0] != second[0]:
        return first[1] < second[1] if places[0] == 1 else first[0] < second[0]
    for one, other in zip(first[1:], second[1:]):
        if repr(one) != repr(other):
            return goes_before(one, other)
    return False


def one_rule(part):
    """What the first rule that applies makes of the part, or None."""
    for number in range(1, 7):
        if number == 5:
            if part[0] in COMMUTATIVE and goes_before(part[2], part[1]):
                return (part[0], part[2], part[1])
            continue
        for left, right in PATTERNS[number]:
            stands = match(left, part)
            if stands is not None:
                return fill(right, stands)
    return None


def model(program):
    """Point 90 with the rules above."""
    if program[0] in ("input", "constant"):
        return program
    part = (program[0], *[model(argument) for argument in program[1:]])
    while part[0] not in ("input", "constant"):
        changed = one_rule(part)
        if changed is None:
            break
        part = changed
    return part


# Components that occur in rules, so that random programs meet the rules often.
FREQUENT = sorted({word for rules in RULES.values() for left, _ in rules
                   for word in left.replace("(", " ").replace(")", " ").split() if word in names()} | set(COMMUTATIVE))


def random_program(chance, kind, levels):
    """A random program of a kind with at most this many levels of calls."""
    if levels == 0 or chance.random() < 0.15:
        if chance.random() < 0.5:
            return read(chance.choice(INPUTS[kind]))
        return ("constant", chance.choice(SOME[kind]))
    fitting = [name for name in FREQUENT if result_kind(name) == kind]
    if chance.random() < 0.2 or not fitting:
        fitting = [name for name in names() if result_kind(name) == kind]
    name = chance.choice(fitting)
    arguments = [random_program(chance, wanted, levels - 1) for wanted in argument_kinds(name)]
    if len(arguments) == 2 and argument_kinds(name)[0] == argument_kinds(name)[1] and chance.random() < 0.3:
        arguments[1] = arguments[0]
    return (name, *arguments)


def random_programs(many, seed):
    chance = random.Random(seed)
    made = []
    while len(made) < many:
        program = random_program(chance, chance.choice(list(SOME)), chance.randrange(7))
        if size(program) <= 60:
            made.append(program)
    return made


PROGRAMS = random_programs(2500, 1)


class RulesTest(unittest.TestCase):

    def test_each_rule(self):
        for number, rules in RULES.items():
            for left, right in rules:
                name = left[1:].split()[0]
                kind = argument_kinds(name)[1 if left.endswith(" x)") and left.count(" ") == 2 else 0]
                for inner in INPUTS[kind]:
                    with self.subTest(rule=number, left=left, inner=inner):
                        source = left.replace(" x", " " + inner)
                        self.assertEqual(simplified(source), right.replace("x", inner) if right == "x"
                                         else right.replace(" x", " " + inner))

    def test_exchange(self):
        for name in COMMUTATIVE:
            kind = argument_kinds(name)[0]
            first, second = INPUTS[kind]
            self.assertEqual(simplified(f"({name} {second} {first})"), f"({name} {first} {second})")
            self.assertEqual(simplified(f"({name} {first} {second})"), f"({name} {first} {second})")
        for name in names():
            if name not in COMMUTATIVE and argument_kinds(name) in (["number"] * 2, ["text"] * 2, ["list"] * 2):
                first, second = INPUTS[argument_kinds(name)[0]]
                self.assertEqual(simplified(f"({name} {second} {first})"), f"({name} {second} {first})")

    def test_what_no_rule_names_stays(self):
        for text in (
            "x0", "-5", "true", '""', "[]", "(neg (abs x0))", "(reverse (sort x6))", "(distinct (sort x6))",
            "(sub 0 x0)", "(divide 1 x0)", "(mul 0 x0)", "(add 1 x0)", "(mul -1 x0)", "(divide x0 0)", "(sub x0 x0)",
            "(both false x2)", "(either true x2)", "(drop x6 1)", "(take x6 0)", "(start x4 0)", "(repeat x4 1)",
            "(add_each x6 1)", "(append x6 0)", '(concat " " x4)', "(join [0] x6)", "(equal x0 x0)", "(mul x0 x0)",
            "(add x0 x0)", "(same_list x6 x6)", "(zip_add x6 x6)", "(zip_add [] x6)", "(concat x4 x4)", "(join x6 x6)",
            "(double (half x0))", "(half (double x0))", "(rest (prepend x0 x6))", "(max (min x0 x1) x0)",
            "(choose_number true x0 x1)", "(choose_number x2 x0 x0)", "(negate (less x0 x1))", "(neg (sub x0 x1))",
            "(sum (running x6))", "(size (distinct x6))", "(words (concat x4 x5))", "(length (number_text x0))",
            "(is_even 0)", "(add 2 3)", "(first (sort x6))", "(last (reverse x6))", "(keep_even (sort x6))",
        ):
            with self.subTest(text):
                self.assertEqual(simplified(text), text if text != "(max (min x0 x1) x0)" else "(max x0 (min x0 x1))")

    def test_arguments_first(self):
        for text, expected in (
            ("(neg (neg (neg x0)))", "(neg x0)"),
            ("(neg (neg (neg (neg x0))))", "x0"),
            ("(abs (neg (neg (neg x0))))", "(abs x0)"),
            ("(abs (add x0 0))", "(abs x0)"),
            ("(sort (reverse (reverse x6)))", "(sort x6)"),
            ("(sort (reverse (sort (reverse x6))))", "(sort x6)"),
            ("(sum (sort (reverse x6)))", "(sum x6)"),
            ("(sum (reverse (sort x6)))", "(sum x6)"),
            ("(max (neg (neg x0)) x0)", "x0"),
            ("(max (add x1 x0) (add x0 x1))", "(add x0 x1)"),
            ("(both (either x2 x3) (either x3 x2))", "(either x2 x3)"),
            ("(sub x0 (sub 0 0))", "x0"),
            ("(divide x0 (mul 1 1))", "x0"),
            ('(concat (concat "" "") x4)', "x4"),
            ("(choose_list (both true true) (join [] x6) (join x7 []))", "(choose_list true x6 x7)"),
            ("(less (neg (neg x0)) (abs (abs x1)))", "(less x0 (abs x1))"),
        ):
            with self.subTest(text):
                self.assertEqual(simplified(text), expected)

    def test_rules_one_after_the_other_at_one_part(self):
        for text, expected in (
            ("(add x0 0)", "x0"), ("(mul x0 1)", "x0"), ("(both x2 true)", "x2"), ("(either x2 false)", "x2"),
            ("(add (add x0 x1) 0)", "(add x0 x1)"), ("(abs (neg (abs x0)))", "(abs x0)"),
            ("(size (sort (reverse (append x6 0))))", "(size (append x6 0))"),
        ):
            with self.subTest(text):
                self.assertEqual(simplified(text), expected)

    def test_exchange_comes_before_the_constants(self):
        # Rule 5 puts the lesser constant first, and so rule 6 does not find 0, 1 or true there.
        for text, expected in (
            ("(add 0 -5)", "(add -5 0)"), ("(add -5 0)", "(add -5 0)"), ("(add 5 0)", "5"), ("(add 0 5)", "5"),
            ("(add 0 0)", "0"), ("(mul 1 0)", "(mul 0 1)"), ("(mul 0 1)", "(mul 0 1)"), ("(mul 2 1)", "2"),
            ("(mul 1 1)", "1"), ("(both true false)", "(both false true)"), ("(both true true)", "true"),
            ("(either true false)", "true"), ("(either false false)", "false"), ("(sub 0 0)", "0"),
            ("(divide 1 1)", "1"), ('(concat "" "")', '""'), ("(join [] [])", "[]"), ("(drop [] 0)", "[]"),
        ):
            with self.subTest(text):
                self.assertEqual(simplified(text), expected)

    def test_equal_with_the_kinds_of_constants(self):
        self.assertEqual(simplified("(max (size [1]) (size [1]))"), "(size [1])")
        self.assertEqual(simplified("(both (is_even 1) (negate true))"), "(both (is_even 1) (negate true))")
        self.assertEqual(simplified("(max (choose_number true 1 0) (choose_number true 1 1))"),
                         "(max (choose_number true 1 0) (choose_number true 1 1))")
        self.assertEqual(repr(simplify(("both", ("constant", True), ("equal", ("constant", 1), ("input", 0))))),
                         repr(("equal", ("constant", 1), ("input", 0))))

    def test_against_the_rules_as_they_are_written(self):
        changed = 0
        for program in PROGRAMS:
            expected = model(program)
            self.assertEqual(repr(simplify(program)), repr(expected), write_program(program))
            changed += repr(expected) != repr(program)
        self.assertGreater(changed, 800)

    def test_somewhat_beyond_the_limits(self):
        for value, name, other in (
            (1000001, "add", X0), (-1000001, "max", X0), ("a" * 31, "same_text", ("input", 4)),
            ((0,) * 13, "zip_add", ("input", 6)), ((1000001,), "same_list", ("input", 6)),
        ):
            large = ("constant", value)
            self.assertEqual(simplify((name, other, large)), (name, large, other))
            self.assertEqual(simplify((name, large, large)), large if name == "max" else (name, large, large))
            self.assertIs(precedes(large, other), True)
            self.assertIs(precedes(other, large), False)
        self.assertIs(precedes(("constant", 1000001), ("constant", False)), True)
        self.assertIs(precedes(("constant", "a" * 31), ("constant", True)), False)
        self.assertIs(precedes(("constant", "a" * 31), ("constant", (0,) * 13)), True)

    def test_deep_programs(self):
        deep = ("input", 0)
        for _ in range(29):
            deep = ("neg", deep)
        self.assertEqual(simplify(deep), ("neg", ("input", 0)))
        deep = ("input", 6)
        for name in ["reverse", "sort"] * 14:
            deep = (name, deep)
        self.assertEqual(simplify(("sum", deep)), ("sum", ("input", 6)))
        wide = ("input", 0)
        for _ in range(29):
            wide = ("add", wide, ("constant", 0))
        self.assertEqual(simplify(wide), ("input", 0))


class MeaningTest(unittest.TestCase):

    def test_same_outcomes(self):
        chance = random.Random(2)
        undefined = 0
        for program in PROGRAMS:
            result = simplify(program)
            self.assertEqual(program_kind(KINDS, result), program_kind(KINDS, program))
            for _ in range(6):
                row = tuple([chance.choice(SOME[kind]) for kind in KINDS])
                self.assertEqual(repr(run(result, row)), repr(run(program, row)), (write_program(program), row))
                undefined += run(program, row) is None
        self.assertGreater(undefined, 500)

    def test_same_outcomes_of_the_rules_where_they_are_undefined(self):
        for text, row in (
            ("(add 0 (divide x0 0))", (5, 1)), ("(max (first x6) (first x6))", (5, 1)),
            ("(neg (neg (greatest x6)))", (5, 1)), ("(both true (is_even (last x6)))", (5, 1)),
            ("(sort (reverse (rest x6)))", (5, 1)), ("(divide (mul x0 1000000) 1)", (5, 1)),
        ):
            row = row + (True, False, "a", "b", (), ())
            self.assertIsNone(run(read(text), row))
            self.assertIsNone(run(simplify(read(text)), row))

    def test_a_simplified_program_stays(self):
        for program in PROGRAMS:
            result = simplify(program)
            self.assertEqual(repr(simplify(result)), repr(result))

    def test_size(self):
        for program in PROGRAMS:
            self.assertLessEqual(size(simplify(program)), size(program))

    def test_program_is_not_modified(self):
        for program in PROGRAMS[:200]:
            before = repr(program)
            simplify(program)
            self.assertEqual(repr(program), before)


class PrecedesTest(unittest.TestCase):

    def test_order(self):
        ascending = [
            "-1000000", "-1", "0", "1", "2", "10", "1000000", "false", "true", '""', '" "', '" a"', '"0"', '"a"',
            '"a "', '"a0"', '"aa"', '"b"', "[]", "[-1]", "[0]", "[0 -5]", "[0 0]", "[1]", "[10]", "x0", "x1", "x2",
            "x7",
            "(abs 0)", "(abs x0)", "(abs (neg x0))", "(add 0 0)", "(add 0 x0)", "(add x0 0)", "(add x0 x0)",
            "(add (neg x0) -5)", "(add_each [] 0)", "(add_each x6 0)", "(is_even x0)", "(less 0 1)", "(less 1 0)",
            "(reverse x6)", "(reverse x7)", "(reverse (reverse x6))", "(reverse_text x4)", "(same_list x6 x6)",
            "(same_text x4 x4)", "(size x6)", "(zip_add x6 x6)",
        ]
        programs = [read(text) for text in ascending]
        for (i, first), (k, second) in itertools.product(enumerate(programs), repeat=2):
            with self.subTest(first=ascending[i], second=ascending[k]):
                self.assertIs(precedes(first, second), i < k)

    def test_against_the_point(self):
        chance = random.Random(3)
        for _ in range(4000):
            first, second = chance.choice(PROGRAMS), chance.choice(PROGRAMS)
            self.assertIs(precedes(first, second), goes_before(first, second))
            self.assertIs(precedes(first, first), False)

    def test_inputs_by_their_indexes(self):
        self.assertIs(precedes(("input", 2), ("input", 10)), True)
        self.assertIs(precedes(("input", 10), ("input", 2)), False)


if __name__ == "__main__":
    unittest.main()
