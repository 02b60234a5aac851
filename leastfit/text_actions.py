"""What the components over texts give for values.

An action may give a result beyond the range: whoever calls it checks this.
"""

from leastfit.values import DIGITS, TEXT_LIMIT


def _concat(s, t):
    return s + t


def _contains(s, t):
    return t in s


def _length(s):
    return len(s)


def _number_text(n):
    return None if n < 0 else str(n)


def _repeat(s, n):
    # The length is looked at first, so that no text of millions of characters is made.
    if n < 0 or len(s) * n > TEXT_LIMIT:
        return None
    return s * n


def _reverse_text(s):
    return s[::-1]


def _same_text(s, t):
    return s == t


def _skip(s, n):
    return s[max(n, 0):]


def _start(s, n):
    return s[:max(n, 0)]


def _text_number(s):
    if s == "" or (s[0] == "0" and s != "0"):
        return None
    if not all([sign in DIGITS for sign in s]):
        return None
    return int(s)


def _words(s):
    return len(s.split())


TEXT_ACTIONS = {
    "concat": _concat,
    "contains": _contains,
    "length": _length,
    "number_text": _number_text,
    "repeat": _repeat,
    "reverse_text": _reverse_text,
    "same_text": _same_text,
    "skip": _skip,
    "start": _start,
    "text_number": _text_number,
    "words": _words,
}
