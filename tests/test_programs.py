"""Programs: forms, kinds, parts, symbols and the errors of a tuple (points 30 to 32)."""

import unittest

from leastfit.components import argument_kinds, names, result_kind
from leastfit.errors import InvalidProgram
from leastfit.programs import depth, parts, program_kind, size, symbols

X0 = ("input", 0)
X1 = ("input", 1)
ONE = ("constant", 1)
OF_KIND = {"number": ("constant", 5), "truth": ("constant", True), "text": ("constant", "a"), "list": ("constant", ())}
KINDS = ["number", "list"]
# Components of each kind. Some have an error inside, which does not change their kind.
RESULTS = {"number": ("neg", X0), "truth": ("negate", X0), "text": ("concat", X0, X0), "list": ("up_to", X0)}

NO_PROGRAMS = [
    # Case 2.
    (), None, 5, True, "input", "add", "", [], ["input", 0], ["constant", 1], ["neg", X0], (1,), (None,), (True,),
    ((),),
    ([],), ({},), (("input", 0),), (("add",), X0, X0), ("plus", X0, X0), ("Input", 0), ("", 0), ("inputs", 0),
    ("Add", X0, X0), ("choose", X0), ("number", 1), ("x0",), (["add"], X0, X0), (b"input", 0),
    # Case 3.
    ("input",), ("input", 0, 0), ("input", True), ("input", False), ("input", -1), ("input", 2), ("input", 1000),
    ("input", None), ("input", "0"), ("input", (0,)), ("input", [0]), ("input", X0), ("input", ""),
    # Case 4.
    ("constant",), ("constant", 1, 2), ("constant", None), ("constant", 1000001), ("constant", -1000001),
    ("constant", "A"), ("constant", "a" * 31), ("constant", (0,) * 13), ("constant", (True,)), ("constant", [1]),
    ("constant", []), ("constant", X0), ("constant", (None,)), ("constant", ((),)), ("constant", "a\n"),
    # Case 5.
    ("neg",), ("neg", X0, X0), ("add",), ("add", X0), ("add", X0, X0, X0), ("choose_number", ("constant", True), X0),
    ("choose_number", ("constant", True), X0, X0, X0), ("size",),
]


def chain(levels, start=X0):
    """A program of this depth, if the start has the depth 1."""
    for _ in range(levels - 1):
        start = ("neg", start)
    return start


def tree(leaves):
    """An add of these parts, in their order, with little depth."""
    if len(leaves) == 1:
        return leaves[0]
    middle = len(leaves) // 2
    return ("add", tree(leaves[:middle]), tree(leaves[middle:]))


def leaves_of(many):
    """Inputs that are tuples of their own each, so that one can tell them apart."""
    return [tuple(["input", 0]) for _ in range(many)]


class KindTest(unittest.TestCase):

    def refuse(self, program, part, kinds=None):
        with self.subTest(program=program):
            with self.assertRaises(InvalidProgram) as caught:
                program_kind(KINDS if kinds is None else kinds, program)
            self.assertIs(caught.exception.part, part)

    def test_inputs(self):
        kinds = ["text", "number", "truth", "list", "number"]
        for k, kind in enumerate(kinds):
            self.assertEqual(program_kind(kinds, ("input", k)), kind)
            for wrong in (k - len(kinds), len(kinds) + k):
                part = ("input", wrong)
                self.refuse(part, part, kinds)

    def test_no_inputs(self):
        part = ("input", 0)
        self.refuse(part, part, [])
        self.assertEqual(program_kind([], ("neg", ("constant", 2))), "number")

    def test_constants(self):
        for value, kind in (
            (0, "number"), (1, "number"), (-1000000, "number"), (1000000, "number"), (True, "truth"), (False, "truth"),
            ("", "text"), ("a" * 30, "text"), ((), "list"), ((1,) * 12, "list"),
        ):
            self.assertEqual(program_kind([], ("constant", value)), kind)

    def test_components(self):
        for name in names():
            arguments = [OF_KIND[kind] for kind in argument_kinds(name)]
            self.assertEqual(program_kind([], (name, *arguments)), result_kind(name))

    def test_argument_of_another_kind(self):
        for name in names():
            kinds = argument_kinds(name)
            for place, kind in enumerate(kinds):
                for other in OF_KIND:
                    if other == kind:
                        continue
                    for part in (OF_KIND[other], RESULTS[other]):
                        arguments = [OF_KIND[needed] for needed in kinds]
                        arguments[place] = part
                        self.refuse((name, *arguments), part)

    def test_argument_that_is_an_input_of_another_kind(self):
        self.refuse(("add", X0, X1), X1)
        self.refuse(("sum", X0), X0)
        self.assertEqual(program_kind(KINDS, ("sum", X1)), "number")

    def test_whole_program_may_have_any_kind(self):
        self.assertEqual(program_kind(KINDS, ("less", X0, ("sum", X1))), "truth")
        self.assertEqual(program_kind(KINDS, ("append", X1, X0)), "list")
        self.assertEqual(program_kind(KINDS, ("number_text", X0)), "text")

    def test_no_programs(self):
        for part in NO_PROGRAMS:
            self.refuse(part, part)

    def test_no_programs_inside(self):
        for part in NO_PROGRAMS:
            self.refuse(("neg", part), part)
            self.refuse(("add", X0, part), part)
            self.refuse(("add", ("neg", part), X0), part)
            self.refuse(("max", X0, ("abs", ("min", X0, part))), part)

    def test_first_part_in_preorder_is_told(self):
        for part in NO_PROGRAMS:
            for later in ((), ("plus", X0), ("input", 9), ("constant", None), ("neg",), ("constant", "a")):
                self.refuse(("add", part, later), part)
                self.refuse(("add", ("neg", ("neg", part)), later), part)
                self.refuse(("add", later, part), later)

    def test_a_part_comes_before_its_arguments(self):
        for wrong in NO_PROGRAMS:
            for part in (("plus", wrong), ("neg", wrong, X0), ("add", wrong), ("input", 0, wrong), ("is_even", wrong)):
                if part[0] != "is_even":
                    self.refuse(part, part)
                self.refuse(("neg", part), part)

    def test_number_of_arguments_before_their_kinds(self):
        part = ("add", X1)
        self.refuse(part, part)
        part = ("size", X0, X0)
        self.refuse(("append", X1, part), part)

    def test_sixty_parts(self):
        program = ("neg", tree(leaves_of(30)))
        self.assertEqual(size(program), 60)
        self.assertEqual(program_kind(KINDS, program), "number")

    def test_sixty_one_parts(self):
        leaves = leaves_of(31)
        program = tree(leaves)
        self.assertEqual(size(program), 61)
        self.refuse(program, leaves[-1])

    def test_the_sixty_first_part_is_told(self):
        program = tree(leaves_of(50))
        self.assertEqual(size(program), 99)
        self.refuse(program, parts(program)[60])
        wide = ("add", tree(leaves_of(30)), ("abs", ("neg", X0)))
        self.assertEqual(size(wide), 63)
        self.refuse(wide, wide[2])

    def test_an_error_before_the_sixty_first_part(self):
        for place in range(50):
            leaves = leaves_of(50)
            leaves[place] = ("input", 7)
            program = tree(leaves)
            wrong = [part is leaves[place] for part in parts(program)].index(True)
            self.refuse(program, leaves[place] if wrong < 60 else parts(program)[60])

    def test_depth_of_thirty(self):
        program = chain(30)
        self.assertEqual(depth(program), 30)
        self.assertEqual(program_kind(KINDS, program), "number")

    def test_depth_of_thirty_one(self):
        self.refuse(chain(31), X0)
        for levels in (32, 40, 5000):
            deep = chain(levels)
            self.refuse(deep, self.inside(deep, 30))

    def inside(self, program, levels):
        for _ in range(levels):
            program = program[1]
        return program

    def test_depth_in_a_later_argument(self):
        start = ("input", 0)
        self.refuse(("add", chain(29), chain(30, start)), start)
        self.assertEqual(program_kind(KINDS, ("add", chain(29), chain(29))), "number")

    def test_an_error_before_the_depth(self):
        wrong = ("input", 8)
        self.refuse(("add", wrong, chain(31)), wrong)
        self.refuse(("add", chain(30, wrong), X0), wrong)
        self.refuse(chain(30, wrong), wrong)

    def test_very_many_arguments(self):
        wide = ("add", *[X0] * 1000)
        self.refuse(wide, wide)

    def test_nothing_is_modified(self):
        kinds = ["number", "list"]
        inner = ["neg", X0]
        program = ("add", X0, inner)
        self.assertRaises(InvalidProgram, program_kind, kinds, program)
        self.assertEqual(program_kind(kinds, ("add", X0, ("sum", X1))), "number")
        self.assertEqual(kinds, ["number", "list"])
        self.assertEqual(inner, ["neg", X0])
        self.assertEqual(program, ("add", X0, ["neg", X0]))


SAMPLES = [
    # A program, its parts and its symbols in preorder, and its depth.
    (X0, [X0], [X0], 1),
    (ONE, [ONE], [ONE], 1),
    (("constant", (1, 2)), [("constant", (1, 2))], [("constant", (1, 2))], 1),
    (("constant", "neg"), [("constant", "neg")], [("constant", "neg")], 1),
    (("neg", X0), [("neg", X0), X0], ["neg", X0], 2),
    (("add", X0, X0), [("add", X0, X0), X0, X0], ["add", X0, X0], 2),
    (
        ("add", ("neg", X0), ("mul", ONE, ("sum", X1))),
        [
            ("add", ("neg", X0), ("mul", ONE, ("sum", X1))), ("neg", X0), X0, ("mul", ONE, ("sum", X1)), ONE,
            ("sum", X1), X1,
        ],
        ["add", "neg", X0, "mul", ONE, "sum", X1],
        4,
    ),
    (
        ("choose_number", ("less", X0, ONE), ("abs", ("neg", X0)), X0),
        [
            ("choose_number", ("less", X0, ONE), ("abs", ("neg", X0)), X0), ("less", X0, ONE), X0, ONE,
            ("abs", ("neg", X0)), ("neg", X0), X0, X0,
        ],
        ["choose_number", "less", X0, ONE, "abs", "neg", X0, X0],
        4,
    ),
]


class PartsTest(unittest.TestCase):

    def test_parts(self):
        for program, expected, _, _ in SAMPLES:
            self.assertEqual(parts(program), expected)

    def test_symbols(self):
        for program, _, expected, _ in SAMPLES:
            self.assertEqual(symbols(program), expected)

    def test_size(self):
        for program, expected, _, _ in SAMPLES:
            self.assertEqual(size(program), len(expected))

    def test_depth(self):
        for program, _, _, expected in SAMPLES:
            self.assertEqual(depth(program), expected)

    def test_depth_is_that_of_the_deepest_argument(self):
        self.assertEqual(depth(("add", chain(5), chain(2))), 6)
        self.assertEqual(depth(("add", chain(2), chain(5))), 6)
        self.assertEqual(depth(("choose_number", OF_KIND["truth"], chain(7), X0)), 8)

    def test_beyond_the_limits(self):
        self.assertEqual(size(tree(leaves_of(31))), 61)
        self.assertEqual(depth(chain(31)), 31)
        self.assertEqual(size(chain(31)), 31)
        self.assertEqual(len(symbols(tree(leaves_of(40)))), 79)
        self.assertEqual(len(parts(chain(100))), 100)

    def test_kinds_of_constants_stay(self):
        program = ("choose_number", ("constant", True), ONE, ("constant", 0))
        self.assertEqual(repr(symbols(program)), repr(["choose_number", ("constant", True), ONE, ("constant", 0)]))

    def test_new_lists(self):
        for program, all_parts, all_symbols, _ in SAMPLES:
            parts(program).clear()
            symbols(program).clear()
            self.assertEqual(parts(program), all_parts)
            self.assertEqual(symbols(program), all_symbols)
            self.assertIsNot(parts(program), parts(program))
            self.assertIsNot(symbols(program), symbols(program))

    def test_program_is_not_modified(self):
        for program, _, _, _ in SAMPLES:
            before = repr(program)
            parts(program)
            symbols(program)
            size(program)
            depth(program)
            self.assertEqual(repr(program), before)


if __name__ == "__main__":
    unittest.main()
