"""The meaning of programs (points 11 and 40)."""

import unittest

from leastfit.components import apply, argument_kinds, names
from leastfit.meaning import outcomes, run
from leastfit.notation import read_program

KINDS = ["number", "list", "text", "truth"]
X0, X1, X2, X3 = [("input", k) for k in range(4)]
OF_KIND = {
    "number": [-3, 2], "truth": [False, True], "text": ["", "a b"], "list": [(), (3, -1, 3)],
}


def exactly(outcome):
    """What tells an outcome from all others, 1 from True too."""
    return repr(outcome)


class RunTest(unittest.TestCase):

    def check(self, text, row, expected):
        with self.subTest(text, row=row):
            program = read_program(KINDS, text)
            self.assertEqual(exactly(run(program, row)), exactly(expected))
            self.assertEqual(exactly(outcomes(program, [row])), exactly((expected,)))

    def test_inputs_alone(self):
        for row in ((0, (), "", False), (1, (1,), "1", True), (-1000000, (5,) * 12, "a b", True)):
            for index, value in enumerate(row):
                self.check(f"x{index}", row, value)

    def test_constants_alone(self):
        for text, value in (
            ("0", 0), ("1", 1), ("-20", -20), ("true", True), ("false", False), ('""', ""), ('"a b"', "a b"),
            ("[]", ()), ("[1 -20]", (1, -20)),
        ):
            self.check(text, (7, (), "", True), value)
            self.assertEqual(exactly(run(read_program([], text), ())), exactly(value))

    def test_each_component(self):
        for name in names():
            for place in range(2):
                values = [OF_KIND[kind][place] for kind in argument_kinds(name)]
                row = tuple(values)
                of_inputs = (name, *[("input", index) for index in range(len(row))])
                of_constants = (name, *[("constant", value) for value in values])
                self.assertEqual(exactly(run(of_inputs, row)), exactly(apply(name, values)))
                self.assertEqual(exactly(run(of_constants, ())), exactly(apply(name, values)))

    def test_order_of_the_arguments(self):
        self.check("(sub x0 5)", (2, (), "", True), -3)
        self.check("(sub 5 x0)", (2, (), "", True), 3)
        self.check('(concat x2 "b")', (2, (), "a", True), "ab")
        self.check("(choose_number x3 1 2)", (2, (), "a", True), 1)
        self.check("(choose_number x3 1 2)", (2, (), "a", False), 2)

    def test_calls_inside_calls(self):
        text = "(choose_number (less x0 (size x1)) (at x1 x0) (add (neg x0) (sum (reverse x1))))"
        self.check(text, (1, (7, 8, 9), "", True), 8)
        self.check(text, (3, (7, 8, 9), "", True), 21)
        self.check(text, (0, (), "", True), 0)
        self.check(text, (-1, (7, 8, 9), "", True), None)

    def test_none_in_an_argument_that_counts(self):
        row = (0, (), "a", True)
        for text in (
            "(divide 1 x0)", "(first x1)", "(neg (first x1))", "(add 1 (first x1))", "(add (first x1) 1)",
            "(max (neg (neg (divide 1 0))) 5)", "(equal (first x1) (first x1))", "(is_empty (rest x1))",
            "(both false (is_even (first x1)))", "(either true (is_even (first x1)))", "(mul 0 (first x1))",
            "(append x1 (first x1))", "(repeat x2 (neg 1))", "(choose_number (is_even (first x1)) 1 1)",
            "(choose_number true (first x1) 1)", "(choose_number false 1 (first x1))",
            "(neg (choose_number x3 (first x1) 1))",
            '(choose_text (is_even (first x1)) "a" "a")', '(choose_text true (number_text -1) "a")',
            "(choose_list x3 (rest x1) x1)", "(choose_list (less 0 (first x1)) x1 x1)",
        ):
            self.check(text, row, None)

    def test_none_in_an_argument_that_does_not_count(self):
        row = (0, (), "a", True)
        self.check("(choose_number x3 5 (first x1))", row, 5)
        self.check("(choose_number (negate x3) (first x1) 6)", row, 6)
        self.check("(neg (choose_number x3 5 (neg (divide 1 x0))))", row, -5)
        self.check('(choose_text x3 "b" (number_text -1))', row, "b")
        self.check('(choose_text false (number_text -1) "c")', row, "c")
        self.check("(choose_list x3 x1 (rest x1))", row, ())
        self.check("(choose_list (is_even 1) (rest x1) [4])", row, (4,))
        self.check("(choose_number (is_empty x1) 0 (first x1))", row, 0)
        self.check("(choose_number (is_empty x1) 0 (first x1))", (0, (9,), "a", True), 9)

    def test_results_beyond_the_range(self):
        self.check("(add x0 1)", (1000000, (), "", True), None)
        self.check("(sub (add x0 1) 1)", (1000000, (), "", True), None)
        self.check("(concat x2 x2)", (0, (), "a" * 16, True), None)
        self.check("(append x1 x0)", (0, (0,) * 12, "", True), None)

    def test_the_greatest_programs(self):
        deep = X0
        for _ in range(29):
            deep = ("neg", deep)
        self.assertEqual(run(deep, (5,)), -5)
        wide = X0
        for _ in range(29):
            wide = ("add", wide, ("constant", 2))
        self.assertEqual(run(wide, (5,)), 63)
        for _ in range(20):
            deep = ("neg", deep)
        self.assertEqual(run(deep, (5,)), -5)

    def test_truths_are_no_numbers(self):
        self.check("(equal x0 1)", (1, (), "", True), True)
        self.check("(choose_number x3 1 0)", (1, (), "", True), 1)
        self.check("(is_even x0)", (2, (), "", True), True)


class OutcomesTest(unittest.TestCase):

    def test_one_outcome_for_each_row_in_order(self):
        program = read_program(KINDS, "(divide 12 x0)")
        rows = [(k, (), "", True) for k in (3, 0, -5, 3, 12)]
        self.assertEqual(outcomes(program, rows), (4, None, -3, 4, 1))
        self.assertEqual(outcomes(program, rows[::-1]), (1, 4, -3, None, 4))

    def test_no_rows(self):
        for text in ("x0", "1", "(neg x0)", "(first [])"):
            self.assertEqual(outcomes(read_program(KINDS, text), []), ())

    def test_no_inputs(self):
        self.assertEqual(outcomes(("add", ("constant", 1), ("constant", 2)), [(), (), ()]), (3, 3, 3))

    def test_result_is_a_tuple(self):
        for rows in ([], [(1,)], [(1,), (2,)]):
            self.assertIs(type(outcomes(X0, rows)), tuple)

    def test_nothing_is_modified(self):
        program = ("append", ("reverse", X1), ("add", X0, ("constant", 1)))
        rows = [(1, (2, 3)), (4, ())]
        before = repr((program, rows))
        outcomes(program, rows)
        run(program, rows[0])
        self.assertEqual(repr((program, rows)), before)


if __name__ == "__main__":
    unittest.main()
