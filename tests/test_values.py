"""The four kinds of values, their order and their written forms (points 10 to 14)."""

import itertools
import re
import unittest

from leastfit.errors import InvalidValue, Malformed
from leastfit.values import compare_values, is_value, kind_of_value, read_value, write_value

NUMBERS = [-1000000, -999999, -20, -1, 0, 1, 7, 10, 999999, 1000000]
TRUTHS = [False, True]
TEXTS = ["", " ", "  ", " a", "0", "0 ", "00", "09", "9", "a", "a ", "a0", "aa", "ab", "b", "true", "z", "z" * 30]
LISTS = [
    (), (-1000000,), (-1,), (-1, -1), (-1, 5), (0,), (0, -1), (0, 0), (1, -20), (1, 2), (1, 2, 3), (2,), (10,),
    (1000000,) * 12,
]
# The values of each kind stand in the order of point 12.
OF_KIND = {"number": NUMBERS, "truth": TRUTHS, "text": TEXTS, "list": LISTS}

NO_VALUES = [
    None, -1000001, 1000001, 10 ** 30, -10 ** 30,
    "a" * 31, " " * 31, "A", "aB", "Z", "-", "a-", "-1", "a_b", "a.b", '"', "\n", "a\n", "\ta", "\r", "\x00", "\x7f",
    "\u00e4", "\u00df", "\u0661", "\u00b2", "\uff11", "\u0430", "\u00a0", "\ud800", "`", "{", "/", ":", "!",
    (0,) * 13, (True,), (1, False), (None,), (1, None), (1000001,), (0, -1000001), ((),), ((1,),), (1, (2,)), ("1",),
    ("",), ([],), ([1],),
    [], [1], [1, 2], [True], ["a"], [()], [[1]], [None],
]


class KindsTest(unittest.TestCase):

    def test_values_are_of_their_kind_only(self):
        for kind, values in OF_KIND.items():
            for value in values:
                for other in OF_KIND:
                    with self.subTest(value=value, kind=other):
                        self.assertIs(is_value(other, value), other == kind)

    def test_other_things_are_of_no_kind(self):
        for thing in NO_VALUES:
            for kind in OF_KIND:
                with self.subTest(thing=thing, kind=kind):
                    self.assertIs(is_value(kind, thing), False)

    def test_range_of_numbers(self):
        self.assertIs(is_value("number", 1000000), True)
        self.assertIs(is_value("number", 1000001), False)
        self.assertIs(is_value("number", -1000000), True)
        self.assertIs(is_value("number", -1000001), False)

    def test_true_and_false_are_no_numbers(self):
        for truth in TRUTHS:
            self.assertIs(is_value("number", truth), False)
            self.assertIs(is_value("list", (truth,)), False)
            self.assertIs(is_value("truth", truth), True)
        for number in (0, 1):
            self.assertIs(is_value("truth", number), False)

    def test_characters_of_texts(self):
        allowed = " 0123456789abcdefghijklmnopqrstuvwxyz"
        for code in range(0x3000):
            sign = chr(code)
            self.assertIs(is_value("text", sign), sign in allowed, code)
            self.assertIs(is_value("text", "ab" + sign + "c"), sign in allowed, code)

    def test_lengths_of_texts(self):
        for length in range(34):
            self.assertIs(is_value("text", "b" * length), length <= 30)

    def test_lengths_of_lists(self):
        for length in range(15):
            self.assertIs(is_value("list", (5,) * length), length <= 12)

    def test_every_place_of_a_list_counts(self):
        for place in range(12):
            for wrong in (True, None, 1000001, (1,), "1", [1]):
                numbers = [0] * 12
                numbers[place] = wrong
                self.assertIs(is_value("list", tuple(numbers)), False)

    def test_kind_of_value(self):
        for kind, values in OF_KIND.items():
            for value in values:
                self.assertEqual(kind_of_value(value), kind)

    def test_no_kind(self):
        for thing in NO_VALUES:
            with self.subTest(thing=thing):
                with self.assertRaises(InvalidValue) as caught:
                    kind_of_value(thing)
                self.assertIs(caught.exception.value, thing)

    def test_lists_are_not_modified(self):
        thing = [1, [2, 3], None]
        is_value("list", thing)
        self.assertRaises(InvalidValue, kind_of_value, thing)
        self.assertEqual(thing, [1, [2, 3], None])


class OrderTest(unittest.TestCase):

    def test_order_of_each_kind(self):
        for values in OF_KIND.values():
            for first, second in itertools.product(range(len(values)), repeat=2):
                expected = (first > second) - (first < second)
                with self.subTest(first=values[first], second=values[second]):
                    result = compare_values(values[first], values[second])
                    self.assertEqual(result, expected)
                    self.assertIs(type(result), int)

    def test_equal_values(self):
        for first, second in (("ab", "".join(["a", "b"])), ((1, 2), tuple([1, 2])), (-1000000, -(10 ** 6))):
            self.assertEqual(compare_values(first, second), 0)

    def test_beginning_comes_first(self):
        self.assertEqual(compare_values("ab", "abc"), -1)
        self.assertEqual(compare_values("abc", "ab"), 1)
        self.assertEqual(compare_values("", " "), -1)
        self.assertEqual(compare_values((1, 2), (1, 2, -5)), -1)
        self.assertEqual(compare_values((1, 2, -5), (1, 2)), 1)
        self.assertEqual(compare_values((), (-1000000,)), -1)

    def test_length_does_not_count_otherwise(self):
        self.assertEqual(compare_values("b", "ab"), 1)
        self.assertEqual(compare_values((2,), (1, 9, 9)), 1)
        self.assertEqual(compare_values((-3,), (1, 9, 9)), -1)

    def test_space_before_digits_before_letters(self):
        signs = " 0123456789abcdefghijklmnopqrstuvwxyz"
        for first, second in itertools.product(range(len(signs)), repeat=2):
            expected = (first > second) - (first < second)
            self.assertEqual(compare_values("x" + signs[first], "x" + signs[second]), expected)

    def test_numbers_in_lists_by_size(self):
        self.assertEqual(compare_values((9,), (10,)), -1)
        self.assertEqual(compare_values((-9,), (-10,)), 1)
        self.assertEqual(compare_values(9, 10), -1)
        self.assertEqual(compare_values(-9, -10), 1)


WRITTEN = [
    (0, "0"), (7, "7"), (-1, "-1"), (-20, "-20"), (1000000, "1000000"), (-1000000, "-1000000"), (10, "10"),
    (True, "true"), (False, "false"),
    ("", '""'), ("a b 1", '"a b 1"'), ("  ", '"  "'), ("true", '"true"'), ("1", '"1"'),
    ("z" * 30, '"' + "z" * 30 + '"'),
    ((), "[]"), ((0,), "[0]"), ((1, -20), "[1 -20]"), ((5,) * 12, "[5 5 5 5 5 5 5 5 5 5 5 5]"),
    ((1000000, -1000000), "[1000000 -1000000]"),
]


def exactly(value):
    """What tells a value from all others, 1 from True too."""
    return repr(value)


class WritingTest(unittest.TestCase):

    def test_written_forms(self):
        for value, text in WRITTEN:
            with self.subTest(text):
                self.assertEqual(write_value(value), text)

    def test_reading_gives_the_value_back(self):
        for value, text in WRITTEN:
            with self.subTest(text):
                self.assertEqual(exactly(read_value(text)), exactly(value))
        for values in OF_KIND.values():
            for value in values:
                self.assertEqual(exactly(read_value(write_value(value))), exactly(value))

    def test_every_number_near_the_edges(self):
        for number in [*range(-1100, 1101), *range(-1000000, -998900), *range(998900, 1000001)]:
            self.assertEqual(read_value(write_value(number)), number)
            self.assertEqual(read_value(write_value((number,))), (number,))


THIRTY = "a" * 30
TWELVE = "0 " * 11 + "0"

MALFORMED = [
    # The examples of point 14.
    ("01", 1), ("-0", 1), ("1000001", 6), ("[1  2]", 3), ("tru", 3),
    # Beginnings of written forms.
    ("", 0), ("-", 1), ("t", 1), ("f", 1), ("fals", 4), ('"', 1), ('"ab', 3), ("[", 1), ("[1", 2), ("[-", 2),
    ("[1 ", 3),
    ("[1 -", 4), ('"' + THIRTY, 31), ("[" + TWELVE, 24),
    # Numbers.
    ("-01", 1), ("--1", 1), ("+1", 0), (" 1", 0), ("1 ", 1), ("00", 1), ("-1000001", 7), ("9999999", 6),
    ("10000000", 7),
    ("1000000 ", 7), ("1-", 1), ("12a", 2), ("1.5", 1), ("-a", 1), ("1\n", 1), ("2000000", 6), ("\u0661", 0),
    ("1\u0661", 1), ("- 1", 1), ("1_0", 1),
    # Truths.
    ("truE", 3), ("True", 0), ("true ", 4), ("truee", 4), ("tfue", 1), ("falsee", 5), ("folse", 1), ("false]", 5),
    ("None", 0), ("none", 0), ("t\"", 1), ("truf", 3),
    # Texts.
    ('"' + THIRTY + "a", 31), ('"' + THIRTY + 'a"', 31), ('"' + THIRTY + '" ', 32), ('"A"', 1), ('"aB"', 2),
    ('"a\n"', 2), ('"a-"', 2), ('"a""', 3), ('"""', 2), ('""a', 2), ("'a'", 0), ('"\u00e4"', 1), ('"\u0661"', 1),
    ('"' + THIRTY + "A", 31), ('"ab\\"', 3), ("a", 0), ('" "1', 3),
    # Lists.
    ("[ 1]", 1), ("[1 ]", 3), ("[ ]", 1), ("[]]", 2), ("[] ", 2), ("[1]]", 3), ("[1,2]", 2), ("[1, 2]", 2), ("[01]", 2),
    ("[-0]", 2), ("[-]", 2), ("[0 00]", 4), ("[1000001]", 7), ("[1 1000001]", 9), ("[-1000001]", 8), ("[true]", 1),
    ('["a"]', 1), ("[[]]", 1), ("[[1]]", 1), ("[1\n2]", 2), ("[1 2", 4), ("[" + TWELVE + " 0]", 24),
    ("[" + TWELVE + " ", 24), ("[" + TWELVE + "0]", 24), ("(1)", 0), ("]", 0), ("[1 2]3", 5), ("[1-2]", 2), ("[x]", 1),
    # Other characters at the beginning.
    ("x", 0), ("x0", 0), ("\n", 0), (" ", 0), ("(add 1 2)", 0), ("\x00", 0),
]

NUMBER = "(?:0|-?[1-9][0-9]*)"
NUMBER_BEGUN = "(?:0|-?[1-9][0-9]*|-)"


def in_range(text):
    """True if every number in a text of few digits is in the range."""
    return all(abs(int(digits)) <= 1000000 for digits in re.findall("[0-9]+", text))


def is_begun(text):
    """True if a written form of a value begins with the text, for texts of at most 12 numbers and 30 characters."""
    if text == "" or re.fullmatch('"[a-z0-9 ]*"?', text):
        return True
    if "true".startswith(text) or "false".startswith(text):
        return True
    if re.fullmatch(NUMBER_BEGUN, text):
        return in_range(text)
    return bool(re.fullmatch(rf"\[(?:\]|(?:{NUMBER} )*(?:{NUMBER_BEGUN}|{NUMBER}\])?)", text)) and in_range(text)


def is_written(text):
    if re.fullmatch('"[a-z0-9 ]*"', text) or text in ("true", "false"):
        return True
    if re.fullmatch(rf"{NUMBER}|\[\]|\[{NUMBER}(?: {NUMBER})*\]", text):
        return in_range(text)
    return False


def malformed_at(text):
    """The index that point 14 gives a text, or None if it is a written form."""
    for index in range(len(text)):
        if not is_begun(text[:index + 1]):
            return index
    return None if is_written(text) else len(text)


class ReadingTest(unittest.TestCase):

    def index_of(self, text):
        try:
            read_value(text)
        except Malformed as error:
            return error.index
        return None

    def test_malformed(self):
        for text, index in MALFORMED:
            with self.subTest(text):
                self.assertEqual(self.index_of(text), index)

    def test_wrong_character_behind_a_whole_form(self):
        for _, text in WRITTEN:
            for sign in "x]\"\n(-\u00e4":
                with self.subTest(text, sign=sign):
                    self.assertEqual(self.index_of(text + sign), len(text))

    def test_every_beginning(self):
        for _, text in WRITTEN:
            for end in range(len(text)):
                expected = None if is_written(text[:end]) else end
                self.assertEqual(self.index_of(text[:end]), expected)

    def test_short_texts(self):
        for length in range(5):
            for signs in itertools.product('-01 []"atrue', repeat=length):
                text = "".join(signs)
                expected = malformed_at(text)
                if self.index_of(text) != expected:
                    self.fail(f"{text!r} is read as malformed at {self.index_of(text)}, not at {expected}")

    def test_long_numbers(self):
        for before, after in (("", ""), ("-", ""), ("[", "]"), ("[5 ", " 5]"), ("[-", "]")):
            for digits in ("99999", "100000", "999999", "1000000", "1000001", "1000010", "2000000", "9999999",
                           "10000000", "10000001", "01000000", "0", "00", "123456789012345678901234567890"):
                text = before + digits + after
                with self.subTest(text):
                    self.assertEqual(self.index_of(text), malformed_at(text))

    def test_what_is_read_is_a_value(self):
        for kind, values in OF_KIND.items():
            for value in values:
                self.assertEqual(kind_of_value(read_value(write_value(value))), kind)


if __name__ == "__main__":
    unittest.main()
