"""The written forms of programs (point 33, with point 14)."""

import functools
import unittest

from leastfit.components import argument_kinds, names, result_kind
from leastfit.errors import InvalidProgram, LeastError, Malformed
from leastfit.notation import read_program, write_program
from leastfit.programs import depth, parts, size
from leastfit.values import write_value

KINDS = ["number", "list", "text", "truth"]
X0, X1, X2, X3 = [("input", k) for k in range(4)]
OF_KIND = {"number": X0, "list": X1, "text": X2, "truth": X3}


def constant(value):
    return ("constant", value)


def chain(levels, start=X0):
    """A program of this depth, if the start has the depth 1."""
    for _ in range(levels - 1):
        start = ("neg", start)
    return start


def tree(leaves, name="add"):
    """A tree of calls over these parts, in their order, with little depth."""
    if len(leaves) == 1:
        return leaves[0]
    middle = len(leaves) // 2
    return (name, tree(leaves[:middle], name), tree(leaves[middle:], name))


# Programs for KINDS and their written forms.
WRITTEN = [
    (X0, "x0"), (X3, "x3"),
    (constant(0), "0"), (constant(-3), "-3"), (constant(1000000), "1000000"), (constant(True), "true"),
    (constant(False), "false"), (constant(""), '""'), (constant("a b 1"), '"a b 1"'), (constant("x0"), '"x0"'),
    (constant("z" * 30), '"' + "z" * 30 + '"'), (constant(()), "[]"), (constant((1, -20)), "[1 -20]"),
    (constant((5,) * 12), "[5 5 5 5 5 5 5 5 5 5 5 5]"),
    (("add", X0, constant(-3)), "(add x0 -3)"),
    (("neg", X0), "(neg x0)"),
    (("add_each", X1, X0), "(add_each x1 x0)"),
    (("both", constant(True), ("negate", X3)), "(both true (negate x3))"),
    (("either", ("negate", ("is_even", X0)), constant(False)), "(either (negate (is_even x0)) false)"),
    (("concat", constant(""), ("concat", X2, constant("add x0"))), '(concat "" (concat x2 "add x0"))'),
    (("join", constant(()), ("append", constant((7, 0, -7)), constant(0))), "(join [] (append [7 0 -7] 0))"),
    (
        ("choose_number", ("less", X0, constant(1)), ("abs", ("neg", X0)), ("sum", X1)),
        "(choose_number (less x0 1) (abs (neg x0)) (sum x1))",
    ),
    (
        ("choose_text", X3, ("start", X2, constant(10)), ("repeat", constant("ab"), constant(1000000))),
        '(choose_text x3 (start x2 10) (repeat "ab" 1000000))',
    ),
    (
        ("choose_list", constant(True), constant((1000000, -1000000)), ("sort", ("up_to", constant(12)))),
        "(choose_list true [1000000 -1000000] (sort (up_to 12)))",
    ),
    (chain(30), "(neg " * 29 + "x0" + ")" * 29),
    (("neg", tree([X0, constant(1)] * 15)), None),
]


def written_forms():
    """The written forms above, and those of calls of each component."""
    forms = [(program, text) for program, text in WRITTEN if text is not None]
    for name in names():
        arguments = [OF_KIND[kind] for kind in argument_kinds(name)]
        forms.append(((name, *arguments), f"({name} " + " ".join(f"x{part[1]}" for part in arguments) + ")"))
    return forms


def exactly(program):
    """What tells a program from all others, also one with the constant 1 from one with True."""
    return repr(program)


# What is a written form is told below by derivatives: after each character, there is the set of all sequences of
# signs and of names of forms that may follow. A name of a form stands between angle brackets.
DIGIT = "0123456789"
ABOVE = DIGIT[1:]
SIGN = " " + DIGIT + "abcdefghijklmnopqrstuvwxyz"


def expanded(form):
    """The sequences of which a form may be made."""
    kind, *rest = form[1:-1].split(":")
    if kind == "program":
        return [("x", "<index>"), ("<number>",), *[tuple(word) for word in ("true", "false")], ('"', "<text:30>"),
                ("[", "]"), ("[", "<number>", "<list:11>"), *[("(", *name, "<arguments>") for name in names()]]
    if kind == "arguments":
        return [(" ", "<program>", "<more>")]
    if kind == "more":
        return [(")",), ("<arguments>",)]
    if kind == "index":
        return [("0",), ("<above>",), ("<above>", "<digit>")]
    if kind == "number":
        distances = [("<above>", *["<digit>"] * more) for more in range(6)] + [tuple("1000000")]
        return [("0",), *distances, *[("-", *distance) for distance in distances]]
    many = int(rest[0])
    if kind == "text":
        return [('"',)] + ([("<sign>", f"<text:{many - 1}>")] if many > 0 else [])
    return [("]",)] + ([(" ", "<number>", f"<list:{many - 1}>")] if many > 0 else [])


CLASSES = {"<digit>": DIGIT, "<above>": ABOVE, "<sign>": SIGN}


def after(sequence, sign):
    """All that may follow the sign, where it is the first one of the sequence."""
    if not sequence:
        return set()
    first, *rest = sequence
    if len(first) == 1 or first in CLASSES:
        return {tuple(rest)} if sign in CLASSES.get(first, first) else set()
    return set().union(*[after((*forms, *rest), sign) for forms in expanded(first)])


@functools.lru_cache(maxsize=None)
def following(text):
    """All that may follow the text."""
    if text == "":
        return frozenset([("<program>",)])
    return frozenset().union(*[after(sequence, text[-1]) for sequence in following(text[:-1])])


def malformed_at(text):
    """The index that point 33 gives a text, or None if it is the written form of a tuple."""
    for index in range(len(text)):
        if not following(text[:index + 1]):
            return index
    return None if () in following(text) else len(text)


class WritingTest(unittest.TestCase):

    def test_written_forms(self):
        for program, text in written_forms():
            with self.subTest(text):
                self.assertEqual(write_program(program), text)

    def test_example_of_the_document(self):
        self.assertEqual(write_program(("add", ("input", 0), ("constant", -3))), "(add x0 -3)")

    def test_the_form_of_a_constant_is_that_of_its_value(self):
        for value in (0, -1, 12, True, False, "", "a b", "true", (), (1, 2, -3)):
            self.assertEqual(write_program(constant(value)), write_value(value))

    def test_inputs_of_two_digits(self):
        self.assertEqual(write_program(("input", 10)), "x10")
        self.assertEqual(write_program(("add", ("input", 99), X0)), "(add x99 x0)")

    def test_beyond_the_limits(self):
        self.assertEqual(write_program(chain(40)), "(neg " * 39 + "x0" + ")" * 39)
        self.assertEqual(write_program(tree([X0] * 40)).count("x0"), 40)


class ReadingTest(unittest.TestCase):

    def index_of(self, text, kinds=None):
        """The index of Malformed, or None if the text is the written form of a tuple."""
        try:
            read_program(KINDS if kinds is None else kinds, text)
        except Malformed as error:
            return error.index
        except InvalidProgram:
            pass
        return None

    def refuse(self, text, part, kinds=None):
        with self.subTest(text):
            with self.assertRaises(InvalidProgram) as caught:
                read_program(KINDS if kinds is None else kinds, text)
            self.assertEqual(exactly(caught.exception.part), exactly(part))

    def test_written_forms(self):
        for program, text in written_forms():
            with self.subTest(text):
                self.assertEqual(exactly(read_program(KINDS, text)), exactly(program))

    def test_reading_gives_the_program_back(self):
        for program, _ in WRITTEN:
            self.assertEqual(exactly(read_program(KINDS, write_program(program))), exactly(program))

    def test_kinds_of_constants(self):
        text = '(choose_number (both true false) (add 1 0) (length "1 true"))'
        program = read_program([], text)
        self.assertEqual(exactly(program), exactly((
            "choose_number", ("both", constant(True), constant(False)), ("add", constant(1), constant(0)),
            ("length", constant("1 true")),
        )))

    def test_depth_of_thirty_and_sixty_parts(self):
        deep = chain(30)
        self.assertEqual(depth(read_program(KINDS, write_program(deep))), 30)
        wide = ("neg", tree([X0, constant(1)] * 15))
        self.assertEqual(size(wide), 60)
        self.assertEqual(read_program(KINDS, write_program(wide)), wide)

    def test_two_thousand_characters(self):
        longest = constant((-1000000,) * 12)
        for last, length in (((1, 1000000), 2000), ((1, 100000), 1999), ((1, 1000000, 1), 2002)):
            program = tree([longest] * 17 + [constant(last)], "join")
            text = write_program(program)
            self.assertEqual(len(text), length)
            self.assertEqual(read_program([], text), program)

    def test_two_thousand_characters_of_no_program(self):
        text = "(join" + " 0" * 997 + ")"
        self.assertEqual(len(text), 2000)
        self.refuse(text, ("join", *[constant(0)] * 997))
        for end in (1998, 1999):
            self.assertEqual(self.index_of(text[:end]), end)
            self.assertEqual(self.index_of(text[:end] + "]"), end)

    def test_texts_nested_to_the_end(self):
        for begun in ("(at " * 500, "(neg " * 400, "(" + "add (" * 399 + "add"):
            self.assertLessEqual(len(begun), 2000)
            self.assertEqual(self.index_of(begun), len(begun))
            self.assertEqual(self.index_of(begun + "("), len(begun) + (begun[-1] == " "))
            self.assertEqual(self.index_of(begun + ")"), len(begun))
        text = "(neg " * 330 + "x0" + ")" * 330
        self.refuse(text, chain(301))
        self.assertEqual(self.index_of(text + ")"), len(text))
        self.assertEqual(self.index_of(text[:-1] + "]"), len(text) - 1)

    def test_malformed(self):
        for text, index in (
            ("", 0), ("x", 1), ("(", 1), ("(a", 2), ("(add", 4), ("(add ", 5), ("(add x0", 7), ("(add x0 ", 8),
            ("(add x0 x0", 10), ("(add_", 5), ("(add_each", 9),
            ("()", 1), ("( add x0 x0)", 1), ("(add)", 4), ("(add )", 5), ("(add  x0 x0)", 5), ("(add x0  x0)", 8),
            ("(add x0 x0 )", 11), ("(add x0 x0))", 11), ("(add x0 x0) ", 11), ("(add x0,x0)", 7), ("(add x0x0)", 7),
            ("(addx0 x0)", 4), ("(plus x0 x0)", 2), ("(Add x0 x0)", 1), ("(add_ x0)", 5), ("(addeach x0)", 4),
            ("(choose x0)", 7), ("(input 0)", 2), ("(input", 2), ("(inp", 2), ("(constant 1)", 4), ("(x0)", 1),
            ("(1 2)", 1), ("((neg x0))", 1), ("(sums x0)", 4), ("(sum\tx0)", 4), ("(s x0)", 2), ("(le 1)", 3),
            ("add x0 x0", 0), ("neg", 0), ("x0 x0", 2), ("x0)", 2), ("x0(", 2), ("X0", 0), ("x-1", 1), ("x 0", 1),
            ("x00", 2), ("x01", 2), ("x100", 3), ("x999", 3), ("x1a", 2), ("xx", 1), ("x\u0661", 1), ("x1\u0661", 2),
            ("x0\n", 2), (" x0", 0), ("\n", 0), (")", 0), ("]", 0), ("None", 0), ("(neg None)", 5), ("\u00e4", 0),
            ("(neg 01)", 6), ("(neg -0)", 6), ("(neg 1000001)", 11), ("(neg -1000001)", 12), ("(neg tru)", 8),
            ("(neg -)", 6), ("(neg [1  2])", 8), ("(neg [1 2)", 9), ("(neg [true])", 6), ('(neg "A")', 6),
            ('(neg "a)', 7), ('(neg "' + "a" * 31 + '")', 36), ('(neg "")")', 8), ("(neg [" + "0 " * 12 + "0])", 29),
            ("(neg true1)", 9), ("(neg x100)", 8), ("(neg 1(neg 1))", 6), ("(neg (neg 1)1)", 12), ("(neg x)", 6),
        ):
            with self.subTest(text):
                self.assertEqual(malformed_at(text), index)
                self.assertEqual(self.index_of(text), index)

    def test_every_beginning(self):
        for _, text in written_forms():
            for end in range(len(text)):
                self.assertEqual(self.index_of(text[:end]), malformed_at(text[:end]), text[:end])

    def test_behind_a_whole_form(self):
        for _, text in written_forms():
            for sign in "x]\"\n( )-\u00e4":
                self.assertEqual(self.index_of(text + sign), len(text), text + sign)

    def test_one_character_wrong(self):
        for _, text in WRITTEN[:-1]:
            for place in range(len(text) + 1):
                before, behind = text[:place], text[place:]
                changed = [before + behind[1:]]
                for sign in "01x ()[\"]-ae_Z\n":
                    changed += [before + sign + behind, before + sign + behind[1:]]
                for wrong in changed:
                    if self.index_of(wrong) != malformed_at(wrong):
                        self.fail(f"{wrong!r}: malformed at {self.index_of(wrong)}, not at {malformed_at(wrong)}")

    def test_every_name_with_a_letter_left_out(self):
        for name in names():
            for place in range(len(name)):
                text = f"({name[:place]}{name[place + 1:]} x0)"
                self.assertEqual(self.index_of(text), malformed_at(text), text)

    def test_no_program(self):
        self.refuse("x0", X0, [])
        self.refuse("x4", ("input", 4))
        self.refuse("x99", ("input", 99))
        self.refuse("(add x0 x10)", ("input", 10))
        self.refuse("(neg true)", constant(True))
        self.refuse("(negate 1)", constant(1))
        self.refuse("(neg (negate 1))", ("negate", constant(1)))
        self.refuse("(sum x0)", X0)
        self.refuse("(length [])", constant(()))
        self.refuse("(length (neg 1))", ("neg", constant(1)))
        self.refuse("(add x0)", ("add", X0))
        self.refuse("(neg x0 x0)", ("neg", X0, X0))
        self.refuse("(add x0 x0 x0)", ("add", X0, X0, X0))
        self.refuse("(add (neg x9) (neg x8))", ("input", 9))
        self.refuse("(add x0 (neg x0 x7))", ("neg", X0, ("input", 7)))

    def test_the_index_is_told_before_the_part(self):
        self.assertEqual(self.index_of("(neg x9"), 7)
        self.assertEqual(self.index_of("(neg true) "), 10)
        self.assertEqual(self.index_of("(add x0)x"), 8)

    def test_too_many_parts(self):
        for leaves in (31, 32, 60):
            program = tree([X0] * leaves)
            self.refuse(write_program(program), parts(program)[60])
        self.refuse("(sum" + " 1" * 900 + ")", ("sum", *[constant(1)] * 900))

    def test_too_deep(self):
        self.refuse(write_program(chain(31)), X0)
        self.refuse(write_program(chain(32)), ("neg", X0))

    def test_what_is_written_of_no_program_is_refused_as_the_tuple(self):
        for part in (("input", 9), ("neg", X1), ("neg", constant("a")), ("add", X0), chain(31), tree([X0] * 33)):
            with self.assertRaises(InvalidProgram) as caught:
                read_program(KINDS, write_program(part))
            self.assertIn(caught.exception.part, parts(part))

    def test_errors(self):
        self.assertRaises(LeastError, read_program, [], "")
        self.assertRaises(ValueError, read_program, [], "x0")

    def test_results_have_the_kinds_of_components(self):
        for name in names():
            text = f"({name} " + " ".join(f"x{OF_KIND[kind][1]}" for kind in argument_kinds(name)) + ")"
            self.assertEqual(read_program(KINDS, text)[0], name)
            self.assertIn(result_kind(name), KINDS)

    def test_nothing_is_modified(self):
        kinds = list(KINDS)
        read_program(kinds, "(add x0 (sum x1))")
        self.assertRaises(Malformed, read_program, kinds, "(add x0 ")
        self.assertRaises(InvalidProgram, read_program, kinds, "(add x0 x1)")
        self.assertEqual(kinds, KINDS)
        for program, _ in WRITTEN:
            before = repr(program)
            write_program(program)
            self.assertEqual(repr(program), before)


if __name__ == "__main__":
    unittest.main()
