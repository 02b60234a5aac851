"""The library of components (points 20 to 23)."""

import itertools
import unittest

from leastfit.components import apply, argument_kinds, is_commutative, names, result_kind
from leastfit.errors import NotFound
from leastfit.values import is_value

# The components as point 22 lists them: the arguments by its letters, and the kind of the result.
LIBRARY = {
    "abs": ("n", "number"), "add": ("n m", "number"), "add_each": ("a n", "list"), "append": ("a n", "list"),
    "at": ("a n", "number"), "both": ("p q", "truth"), "choose_list": ("p a b", "list"),
    "choose_number": ("p n m", "number"), "choose_text": ("p s t", "text"), "concat": ("s t", "text"),
    "contains": ("s t", "truth"), "count_of": ("a n", "number"), "distinct": ("a", "list"),
    "divide": ("n m", "number"), "double": ("n", "number"), "drop": ("a n", "list"), "either": ("p q", "truth"),
    "equal": ("n m", "truth"), "first": ("a", "number"), "greatest": ("a", "number"), "half": ("n", "number"),
    "is_empty": ("a", "truth"), "is_even": ("n", "truth"), "join": ("a b", "list"), "keep_above": ("a n", "list"),
    "keep_even": ("a", "list"), "last": ("a", "number"), "least": ("a", "number"), "length": ("s", "number"),
    "less": ("n m", "truth"), "max": ("n m", "number"), "min": ("n m", "number"), "mod": ("n m", "number"),
    "mul": ("n m", "number"), "neg": ("n", "number"), "negate": ("p", "truth"), "number_text": ("n", "text"),
    "prepend": ("n a", "list"), "product": ("a", "number"), "repeat": ("s n", "text"), "rest": ("a", "list"),
    "reverse": ("a", "list"), "reverse_text": ("s", "text"), "running": ("a", "list"), "same_list": ("a b", "truth"),
    "same_text": ("s t", "truth"), "size": ("a", "number"), "skip": ("s n", "text"), "sort": ("a", "list"),
    "start": ("s n", "text"), "sub": ("n m", "number"), "sum": ("a", "number"), "take": ("a n", "list"),
    "text_number": ("s", "number"), "up_to": ("n", "list"), "words": ("s", "number"), "zip_add": ("a b", "list"),
}
LETTERS = {
    "n": "number", "m": "number", "p": "truth", "q": "truth", "s": "text", "t": "text", "a": "list", "b": "list",
}
COMMUTATIVE = ["add", "both", "either", "equal", "max", "min", "mul", "same_list", "same_text", "zip_add"]
UNKNOWN = ["", "plus", "Add", "add ", "input", "constant", "choose", "number", "abs\n", "x0", "_abs", "zip"]

SAMPLES = {
    "number": [-1000000, -31, -7, -2, -1, 0, 1, 2, 3, 7, 12, 13, 30, 31, 1000, 500001, 999999, 1000000],
    "truth": [False, True],
    "text": [
        "", " ", "0", "01", "7", "1000000", "1000001", "a", "ab", "ba", "a b", " ab  c ", "aba", "z" * 29, "q" * 30,
    ],
    "list": [
        (), (0,), (1,), (-1,), (1000000,), (3, 1, 2), (2, 2, 1), (1, 2, 3, 4), (-5, 4), (1000000, 1, -1),
        (-1000000, -1),
        (2,) * 11, (1,) * 12, (9, -4, 9, 0, 2, -4, 7, 1, 1, 6, 8, 3),
    ],
}

TOP = 1000000
TWELVE = (1, 2, 3, 4, 5, 6, 7, 8, 9, 10, 11, 12)

CASES = {
    "abs": [((5,), 5), ((-5,), 5), ((0,), 0), ((-TOP,), TOP), ((TOP,), TOP)],
    "add": [
        ((2, 3), 5), ((-2, 3), 1), ((0, 0), 0), ((TOP - 1, 1), TOP), ((TOP, 1), None), ((1 - TOP, -1), -TOP),
        ((-TOP, -1), None), ((TOP, -TOP), 0),
    ],
    "add_each": [
        (((1, 2), 3), (4, 5)), (((1, -2), -3), (-2, -5)), (((), 5), ()), (((), TOP), ()), (((TOP - 1, 0), 1), (TOP, 1)),
        (((0, TOP), 1), None), (((TOP, 0), 1), None), (((1 - TOP,), -1), (-TOP,)), (((-TOP, 5), -1), None),
        (((1,) * 12, 1), (2,) * 12),
    ],
    "append": [
        (((1, 2), 3), (1, 2, 3)), (((), 3), (3,)), (((2,), 2), (2, 2)), ((TWELVE[:11], 12), TWELVE),
        ((TWELVE, 13), None),
    ],
    "at": [
        (((5, 6, 7), 0), 5), (((5, 6, 7), 2), 7), (((5, 6, 7), 3), None), (((5, 6, 7), -1), None), (((), 0), None),
        (((5, 6, 7), TOP), None), (((5, 6, 7), -TOP), None), (((5, 0, 7), 1), 0), (((5, 6, 7), -3), None),
    ],
    "both": [((True, True), True), ((True, False), False), ((False, True), False), ((False, False), False)],
    "choose_list": [
        ((True, (1,), (2,)), (1,)), ((False, (1,), (2,)), (2,)), ((True, (), (2,)), ()), ((False, (1,), ()), ()),
    ],
    "choose_number": [((True, 1, 2), 1), ((False, 1, 2), 2), ((True, 0, 2), 0), ((False, 1, 0), 0)],
    "choose_text": [((True, "a", "b"), "a"), ((False, "a", "b"), "b"), ((True, "", "b"), ""), ((False, "a", ""), "")],
    "concat": [
        (("ab", "cd"), "abcd"), (("", "cd"), "cd"), (("ab", ""), "ab"), (("", ""), ""), (("a ", " b"), "a  b"),
        (("a" * 15, "b" * 15), "a" * 15 + "b" * 15), (("a" * 16, "b" * 15), None), (("a" * 30, ""), "a" * 30),
        (("a" * 30, " "), None),
    ],
    "contains": [
        (("abc", "bc"), True), (("abc", "ac"), False), (("abc", ""), True), (("", ""), True), (("", "a"), False),
        (("bc", "abc"), False), (("abc", "abc"), True), (("a b", " "), True), (("aab", "ab"), True),
    ],
    "count_of": [(((1, 2, 1), 1), 2), (((1, 2, 1), 3), 0), (((), 0), 0), (((0,) * 12, 0), 12), (((-1, 1), 1), 1)],
    "distinct": [
        (((1, 2, 1, 3, 2),), (1, 2, 3)), (((),), ()), (((2, 1),), (2, 1)), (((0,) * 12,), (0,)),
        (((3, -3, 3),), (3, -3)),
    ],
    "divide": [
        ((7, 2), 3), ((-7, 2), -4), ((7, -2), -4), ((-7, -2), 3), ((6, 3), 2), ((-6, 3), -2), ((6, -3), -2),
        ((0, 5), 0),
        ((0, -5), 0), ((5, 0), None), ((0, 0), None), ((-5, 0), None), ((-TOP, -1), TOP), ((TOP, -1), -TOP),
        ((-1, TOP), -1), ((1, TOP), 0), ((1, -TOP), -1), ((TOP, 1), TOP),
    ],
    "double": [
        ((3,), 6), ((-3,), -6), ((0,), 0), ((500000,), TOP), ((500001,), None), ((-500000,), -TOP), ((-500001,), None),
    ],
    "drop": [
        (((1, 2, 3), 1), (2, 3)), (((1, 2, 3), 0), (1, 2, 3)), (((1, 2, 3), -1), (1, 2, 3)),
        (((1, 2, 3), -TOP), (1, 2, 3)),
        (((1, 2, 3), 3), ()), (((1, 2, 3), 4), ()), (((1, 2, 3), TOP), ()), (((), 0), ()), (((), -2), ()),
    ],
    "either": [((True, True), True), ((True, False), True), ((False, True), True), ((False, False), False)],
    "equal": [((2, 2), True), ((2, 3), False), ((0, 0), True), ((-1, 1), False), ((TOP, TOP), True)],
    "first": [(((5, 6),), 5), (((),), None), (((0,),), 0), (((7, -9, 8),), 7)],
    "greatest": [(((5, 6, -7),), 6), (((),), None), (((-3, -2, -9),), -2), (((0,),), 0), (((4, 4),), 4)],
    "half": [((8,), 4), ((7,), 3), ((-7,), -4), ((-1,), -1), ((1,), 0), ((0,), 0), ((-8,), -4), ((TOP,), 500000)],
    "is_empty": [(((),), True), (((0,),), False), (((1, 2),), False)],
    "is_even": [((4,), True), ((3,), False), ((0,), True), ((-4,), True), ((-3,), False), ((1,), False)],
    "join": [
        (((1, 2), (3,)), (1, 2, 3)), (((), (3,)), (3,)), (((1,), ()), (1,)), (((), ()), ()),
        ((TWELVE[:6], TWELVE[6:]), TWELVE), ((TWELVE[:7], TWELVE[6:]), None), ((TWELVE, ()), TWELVE),
        (((), TWELVE), TWELVE),
        ((TWELVE, (1,)), None),
    ],
    "keep_above": [
        (((3, 1, 2, 3), 1), (3, 2, 3)), (((3, 1, 2), 3), ()), (((3, 1, 2), -1), (3, 1, 2)), (((), 0), ()),
        (((-1, 0, -3), -2), (-1, 0)),
    ],
    "keep_even": [
        (((4, 1, 2, 3),), (4, 2)), (((),), ()), (((-2, -1, 0),), (-2, 0)), (((1, 3),), ()), (((2, 2),), (2, 2)),
    ],
    "last": [(((5, 6),), 6), (((),), None), (((0,),), 0), (((7, -9, 8),), 8)],
    "least": [(((5, 6, -7),), -7), (((),), None), (((3, 2, 9),), 2), (((0,),), 0), (((4, 4),), 4)],
    "length": [(("",), 0), (("abc",), 3), ((" a ",), 3), (("a" * 30,), 30)],
    "less": [((1, 2), True), ((2, 1), False), ((2, 2), False), ((-2, -1), True), ((-1, -2), False), ((9, 10), True)],
    "max": [((1, 2), 2), ((2, 1), 2), ((-3, -4), -3), ((5, 5), 5), ((0, -1), 0)],
    "min": [((1, 2), 1), ((2, 1), 1), ((-3, -4), -4), ((5, 5), 5), ((0, 1), 0)],
    "mod": [
        ((7, 2), 1), ((-7, 2), 1), ((7, -2), -1), ((-7, -2), -1), ((6, 3), 0), ((-6, -3), 0), ((5, 0), None),
        ((0, 0), None),
        ((0, 5), 0), ((-1, TOP), TOP - 1), ((1, -TOP), 1 - TOP), ((-7, 3), 2), ((7, -3), -2), ((2, 7), 2),
    ],
    "mul": [
        ((3, 4), 12), ((-3, 4), -12), ((-3, -4), 12), ((0, TOP), 0), ((1000, 1000), TOP), ((1000, 1001), None),
        ((-1000, 1000), -TOP), ((-1000, 1001), None), ((TOP, TOP), None), ((TOP, -1), -TOP), ((-TOP, -1), TOP),
    ],
    "neg": [((3,), -3), ((-3,), 3), ((0,), 0), ((TOP,), -TOP), ((-TOP,), TOP)],
    "negate": [((True,), False), ((False,), True)],
    "number_text": [((0,), "0"), ((5,), "5"), ((120,), "120"), ((TOP,), "1000000"), ((-1,), None), ((-TOP,), None)],
    "prepend": [
        ((3, (1, 2)), (3, 1, 2)), ((3, ()), (3,)), ((2, (2,)), (2, 2)), ((1, TWELVE[1:]), TWELVE), ((0, TWELVE), None),
    ],
    "product": [
        (((2, 3, 4),), 24), (((),), 1), (((0,),), 0), (((-2, 3),), -6), (((1000, 1000),), TOP), (((1000, 1001),), None),
        (((TOP, TOP, 0),), 0), (((TOP, 2),), None), (((-TOP, 1),), -TOP), (((-1000, 1001),), None),
        (((TOP,) * 12,), None), (((TOP,) * 11 + (0,),), 0), (((5,),), 5),
    ],
    "repeat": [
        (("ab", 3), "ababab"), (("ab", 0), ""), (("ab", 1), "ab"), (("ab", -1), None), (("", -1), None), (("", 0), ""),
        (("", 5), ""), (("", TOP), ""), (("abc", 10), "abc" * 10), (("abc", 11), None), (("a", 30), "a" * 30),
        (("a", 31), None), (("a" * 30, TOP), None), (("a" * 30, 1), "a" * 30), (("ab", -TOP), None),
        (("a b", 2), "a ba b"),
    ],
    "rest": [(((5, 6, 7),), (6, 7)), (((5,),), ()), (((),), None), (((0, 0),), (0,))],
    "reverse": [(((1, 2, 3),), (3, 2, 1)), (((),), ()), (((1,),), (1,)), (((2, 1, 2, 0),), (0, 2, 1, 2))],
    "reverse_text": [(("abc",), "cba"), (("",), ""), (("a b ",), " b a"), (("aa",), "aa")],
    "running": [
        (((1, 2, 3),), (1, 3, 6)), (((),), ()), (((5,),), (5,)), (((1, -1, 4),), (1, 0, 4)),
        (((TOP - 1, 1),), (TOP - 1, TOP)),
        (((TOP, 1),), None), (((TOP, 1, -1),), None), (((-TOP, -1, 1),), None), (((-TOP, TOP),), (-TOP, 0)),
    ],
    "same_list": [
        (((1, 2), (1, 2)), True), (((1, 2), (2, 1)), False), (((), ()), True), (((1,), (1, 1)), False),
        (((), (0,)), False),
    ],
    "same_text": [
        (("ab", "ab"), True), (("ab", "ba"), False), (("", ""), True), (("a", "a "), False), (("", " "), False),
    ],
    "size": [(((),), 0), (((5, 5, 5),), 3), ((TWELVE,), 12)],
    "skip": [
        (("abc", 1), "bc"), (("abc", 0), "abc"), (("abc", -1), "abc"), (("abc", -TOP), "abc"), (("abc", 3), ""),
        (("abc", 4), ""), (("abc", TOP), ""), (("", 0), ""), (("", -2), ""),
    ],
    "sort": [
        (((3, 1, 2),), (1, 2, 3)), (((),), ()), (((2, 1, 2),), (1, 2, 2)), (((10, 9, -10, -9),), (-10, -9, 9, 10)),
        (((0, 0),), (0, 0)),
    ],
    "start": [
        (("abc", 1), "a"), (("abc", 0), ""), (("abc", -1), ""), (("abc", -TOP), ""), (("abc", 3), "abc"),
        (("abc", 4), "abc"),
        (("abc", TOP), "abc"), (("", 0), ""), (("", 2), ""),
    ],
    "sub": [
        ((5, 3), 2), ((3, 5), -2), ((0, 0), 0), ((TOP, 0), TOP), ((TOP, -1), None), ((-TOP, 1), None),
        ((1 - TOP, 1), -TOP),
        ((TOP - 1, -1), TOP), ((0, TOP), -TOP),
    ],
    "sum": [
        (((1, 2, 3),), 6), (((),), 0), (((-1, 1),), 0), (((TOP, TOP, -TOP),), TOP), (((TOP, 1),), None),
        (((-TOP, -1),), None),
        (((TOP - 1, 1),), TOP), (((-1, 1 - TOP),), -TOP), (((5,),), 5),
    ],
    "take": [
        (((1, 2, 3), 1), (1,)), (((1, 2, 3), 0), ()), (((1, 2, 3), -1), ()), (((1, 2, 3), -TOP), ()),
        (((1, 2, 3), 3), (1, 2, 3)),
        (((1, 2, 3), 4), (1, 2, 3)), (((1, 2, 3), TOP), (1, 2, 3)), (((), 0), ()), (((), 2), ()),
    ],
    "text_number": [
        (("0",), 0), (("7",), 7), (("120",), 120), (("1000000",), TOP), (("1000001",), None), (("9" * 30,), None),
        (("",), None),
        (("00",), None), (("01",), None), (("0" * 30,), None), (("a",), None), (("1a",), None), (("a1",), None),
        ((" 1",), None), (("1 ",), None), (("1 2",), None), ((" ",), None), (("999999",), 999999), (("0a",), None),
    ],
    "up_to": [
        ((3,), (1, 2, 3)), ((1,), (1,)), ((0,), ()), ((-1,), ()), ((-TOP,), ()), ((12,), TWELVE), ((13,), None),
        ((TOP,), None),
    ],
    "words": [
        (("",), 0), ((" ",), 0), (("a",), 1), (("ab c",), 2), (("  ab   c  ",), 2), (("a b c d",), 4), ((" a",), 1),
        (("a ",), 1),
        (("1 2",), 2),
    ],
    "zip_add": [
        (((1, 2), (3, 4)), (4, 6)), (((1, 2), (3,)), (4,)), (((1,), (3, 4)), (4,)), (((), (3, 4)), ()),
        (((1,), ()), ()),
        (((), ()), ()), (((TOP,), (1,)), None), (((TOP - 1,), (1,)), (TOP,)), (((-TOP,), (-1,)), None),
        (((0, TOP), (0,)), (0,)), (((0, TOP), (0, 1)), None), ((TWELVE, (1,) * 12), TWELVE[1:] + (13,)),
    ],
}


def kinds_of(name):
    return [LETTERS[letter] for letter in LIBRARY[name][0].split()]


class LibraryTest(unittest.TestCase):

    def test_names(self):
        self.assertEqual(names(), sorted(LIBRARY))
        self.assertEqual(len(names()), 57)

    def test_names_are_a_new_list(self):
        first = names()
        first.clear()
        self.assertEqual(names(), sorted(LIBRARY))

    def test_argument_kinds(self):
        for name in LIBRARY:
            with self.subTest(name):
                self.assertEqual(argument_kinds(name), kinds_of(name))

    def test_argument_kinds_are_a_new_list(self):
        for name in LIBRARY:
            argument_kinds(name).append("truth")
            argument_kinds(name)[0] = "list"
            self.assertEqual(argument_kinds(name), kinds_of(name))

    def test_result_kind(self):
        for name, (_, kind) in LIBRARY.items():
            with self.subTest(name):
                self.assertEqual(result_kind(name), kind)

    def test_commutative(self):
        for name in LIBRARY:
            with self.subTest(name):
                self.assertIs(is_commutative(name), name in COMMUTATIVE)

    def test_unknown_names(self):
        for name in UNKNOWN:
            calls = (
                lambda: argument_kinds(name), lambda: result_kind(name), lambda: is_commutative(name),
                lambda: apply(name, []), lambda: apply(name, [1, 2]), lambda: apply(name, (None,)),
            )
            for call in calls:
                with self.subTest(name):
                    with self.assertRaises(NotFound) as caught:
                        call()
                    self.assertEqual(caught.exception.name, name)


class ApplyTest(unittest.TestCase):

    def check(self, name, outcomes, expected):
        """Compares the written forms, because True is equal to 1."""
        with self.subTest(name, outcomes=outcomes):
            self.assertEqual(repr(apply(name, list(outcomes))), repr(expected))
            self.assertEqual(repr(apply(name, tuple(outcomes))), repr(expected))

    def test_every_component_has_cases(self):
        self.assertEqual(sorted(CASES), sorted(LIBRARY))

    def test_cases(self):
        for name, cases in CASES.items():
            for outcomes, expected in cases:
                self.check(name, outcomes, expected)

    def test_none_in_each_place(self):
        for name, cases in CASES.items():
            if name.startswith("choose"):
                continue
            for outcomes, _ in cases:
                for place in range(len(outcomes)):
                    self.check(name, (*outcomes[:place], None, *outcomes[place + 1:]), None)
            self.check(name, [None] * len(kinds_of(name)), None)

    def test_none_and_choices(self):
        for name, first, second in (
            ("choose_list", (1,), ()), ("choose_number", 0, 5), ("choose_text", "", "a"),
        ):
            self.check(name, (True, first, None), first)
            self.check(name, (True, None, second), None)
            self.check(name, (False, None, second), second)
            self.check(name, (False, first, None), None)
            self.check(name, (None, first, second), None)
            self.check(name, (None, first, first), None)
            self.check(name, (None, None, None), None)
            self.check(name, (True, None, None), None)
            self.check(name, (False, None, None), None)

    def test_results_are_outcomes_of_their_kind(self):
        for name in LIBRARY:
            for outcomes in itertools.product(*[SAMPLES[kind] for kind in kinds_of(name)]):
                result = apply(name, outcomes)
                if result is not None and not is_value(LIBRARY[name][1], result):
                    self.fail(f"{name} of {outcomes} gives {result!r}")

    def test_exchanging_arguments(self):
        for name in COMMUTATIVE:
            for first, second in itertools.product(SAMPLES[kinds_of(name)[0]], repeat=2):
                self.assertEqual(apply(name, [first, second]), apply(name, [second, first]))

    def test_others_are_changed_by_exchanging(self):
        for name in LIBRARY:
            kinds = kinds_of(name)
            if name not in COMMUTATIVE and len(kinds) == 2 and kinds[0] == kinds[1]:
                pairs = itertools.product(SAMPLES[kinds[0]], repeat=2)
                self.assertTrue(any(apply(name, [a, b]) != apply(name, [b, a]) for a, b in pairs), name)

    def test_divide_and_mod_belong_together(self):
        for n, m in itertools.product([*range(-20, 21), TOP, -TOP, TOP - 1], repeat=2):
            if m == 0:
                continue
            quotient, remainder = apply("divide", [n, m]), apply("mod", [n, m])
            self.assertEqual(n, m * quotient + remainder)
            self.assertTrue(0 <= remainder < m or m < remainder <= 0)

    def test_half_is_divide_by_two(self):
        for n in SAMPLES["number"]:
            self.assertEqual(apply("half", [n]), apply("divide", [n, 2]))

    def test_outcomes_are_not_modified(self):
        for name, cases in CASES.items():
            for outcomes, _ in cases:
                passed = list(outcomes)
                apply(name, passed)
                self.assertEqual(repr(passed), repr(list(outcomes)))


if __name__ == "__main__":
    unittest.main()
