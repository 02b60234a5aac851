"""The four kinds of values, their order and their written forms."""

from leastfit.errors import InvalidValue, Malformed

KINDS = ("number", "truth", "text", "list")

NUMBER_LIMIT = 1000000
TEXT_LIMIT = 30
LIST_LIMIT = 12

DIGITS = "0123456789"
SIGNS = " 0123456789abcdefghijklmnopqrstuvwxyz"
QUOTE = '"'


def is_number(value):
    """Return True if the value is a number."""
    # For Python, True and False are integers.
    if not isinstance(value, int) or isinstance(value, bool):
        return False
    return -NUMBER_LIMIT <= value <= NUMBER_LIMIT


def is_text(value):
    """Return True if the value is a text."""
    if not isinstance(value, str) or len(value) > TEXT_LIMIT:
        return False
    return all([sign in SIGNS for sign in value])


def is_list(value):
    """Return True if the value is a list, which is a tuple of numbers."""
    if not isinstance(value, tuple) or len(value) > LIST_LIMIT:
        return False
    return all([is_number(number) for number in value])


def is_value(kind, value):
    """Return True if the value is a value of this kind."""
    if kind == "number":
        return is_number(value)
    if kind == "truth":
        return isinstance(value, bool)
    if kind == "text":
        return is_text(value)
    return kind == "list" and is_list(value)


def is_of_some_kind(value):
    """Return True if the value is a value of one of the kinds."""
    return any([is_value(kind, value) for kind in KINDS])


def is_row(kinds, row):
    """Return True if the row is a tuple of exactly one value of the right kind for each of the input kinds."""
    if not isinstance(row, tuple) or len(row) != len(kinds):
        return False
    return all([is_value(kind, value) for kind, value in zip(kinds, row)])


def kind_of_value(value):
    """Return the kind of a value. Raise InvalidValue if it is not a value of any kind."""
    for kind in KINDS:
        if is_value(kind, value):
            return kind
    raise InvalidValue(value)


def compare_values(first, second):
    """Return -1, 0 or 1 if the first value comes before, is equal to or comes after the second one of its kind."""
    # Python's own order of integers, truths, strings and tuples is the order of the values:
    # the space comes before the digits and these before the letters in ASCII.
    if first < second:
        return -1
    if first > second:
        return 1
    return 0


def write_value(value):
    """Return the written form of a value."""
    if isinstance(value, bool):
        return "true" if value else "false"
    if isinstance(value, str):
        return QUOTE + value + QUOTE
    if isinstance(value, tuple):
        return "[" + " ".join([str(number) for number in value]) + "]"
    return str(value)


def read_value(text):
    """Return the value with this written form. Raise Malformed if there is none."""
    value, end = scan_value(text, 0)
    if end < len(text):
        raise Malformed(end)
    return value


def scan_value(text, start):
    """Return the value with the longest written form that begins at start, and the index behind this form.

    Raise Malformed if none begins there.
    """
    sign = text[start:start + 1]
    if sign == QUOTE:
        return scan_text(text, start + 1)
    if sign == "[":
        return scan_list(text, start + 1)
    if sign == "t":
        return True, index_behind(text, start, "true")
    if sign == "f":
        return False, index_behind(text, start, "false")
    return scan_number(text, start)


def index_behind(text, start, word):
    """Return the index behind the word that begins at start. Raise Malformed if another text stands there."""
    for k in range(len(word)):
        if text[start + k:start + k + 1] != word[k]:
            raise Malformed(start + k)
    return start + len(word)


def scan_number(text, start):
    """Return the number that begins at start, and the index behind it."""
    if text[start:start + 1] == "0":
        return 0, start + 1
    if text[start:start + 1] == "-":
        distance, end = scan_distance(text, start + 1)
        return -distance, end
    return scan_distance(text, start)


def scan_distance(text, start):
    """Return the number above 0 that begins at start, and the index behind it."""
    distance = 0
    end = start
    while end < len(text) and text[end] in DIGITS:
        longer = 10 * distance + int(text[end])
        # A leading 0 gives 0. A digit too many is not part of the number, so that its index is told.
        if longer == 0 or longer > NUMBER_LIMIT:
            break
        distance = longer
        end += 1
    if distance == 0:
        raise Malformed(end)
    return distance, end


def scan_text(text, start):
    """Return the text whose opening quote stands before start, and the index behind its closing quote."""
    end = start
    while end < len(text) and end - start < TEXT_LIMIT and text[end] in SIGNS:
        end += 1
    return text[start:end], index_behind(text, end, QUOTE)


def scan_list(text, start):
    """Return the list whose opening bracket stands before start, and the index behind its closing bracket."""
    if text[start:start + 1] == "]":
        return (), start + 1
    number, end = scan_number(text, start)
    numbers = [number]
    while len(numbers) < LIST_LIMIT and text[end:end + 1] == " ":
        number, end = scan_number(text, end + 1)
        numbers.append(number)
    return tuple(numbers), index_behind(text, end, "]")
