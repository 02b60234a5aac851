"""What the components over numbers and truths give for values.

An action may give a result beyond the range: whoever calls it checks this.
"""


def _abs(n):
    return abs(n)


def _add(n, m):
    return n + m


def _both(p, q):
    return p and q


def _divide(n, m):
    return None if m == 0 else n // m


def _double(n):
    return 2 * n


def _either(p, q):
    return p or q


def _equal(n, m):
    return n == m


def _half(n):
    return n // 2


def _is_even(n):
    return n % 2 == 0


def _less(n, m):
    return n < m


def _max(n, m):
    return max(n, m)


def _min(n, m):
    return min(n, m)


def _mod(n, m):
    return None if m == 0 else n % m


def _mul(n, m):
    return n * m


def _neg(n):
    return -n


def _negate(p):
    return not p


def _sub(n, m):
    return n - m


NUMBER_ACTIONS = {
    "abs": _abs,
    "add": _add,
    "both": _both,
    "divide": _divide,
    "double": _double,
    "either": _either,
    "equal": _equal,
    "half": _half,
    "is_even": _is_even,
    "less": _less,
    "max": _max,
    "min": _min,
    "mod": _mod,
    "mul": _mul,
    "neg": _neg,
    "negate": _negate,
    "sub": _sub,
}
