"""What the components over lists give for values.

An action may give a result beyond the range: whoever calls it checks this.
"""

from leastfit.values import LIST_LIMIT


def _add_each(a, n):
    return tuple([number + n for number in a])


def _append(a, n):
    return (*a, n)


def _at(a, n):
    return a[n] if 0 <= n < len(a) else None


def _count_of(a, n):
    return a.count(n)


def _distinct(a):
    kept = []
    for number in a:
        if number not in kept:
            kept.append(number)
    return tuple(kept)


def _drop(a, n):
    return a[max(n, 0):]


def _first(a):
    return a[0] if a else None


def _greatest(a):
    return max(a) if a else None


def _is_empty(a):
    return len(a) == 0


def _join(a, b):
    return a + b


def _keep_above(a, n):
    return tuple([number for number in a if number > n])


def _keep_even(a):
    return tuple([number for number in a if number % 2 == 0])


def _last(a):
    return a[-1] if a else None


def _least(a):
    return min(a) if a else None


def _prepend(n, a):
    return (n, *a)


def _product(a):
    total = 1
    for number in a:
        total = total * number
    return total


def _rest(a):
    return a[1:] if a else None


def _reverse(a):
    return a[::-1]


def _running(a):
    total = 0
    totals = []
    for number in a:
        total = total + number
        totals.append(total)
    return tuple(totals)


def _same_list(a, b):
    return a == b


def _size(a):
    return len(a)


def _sort(a):
    return tuple(sorted(a))


def _sum(a):
    return sum(a)


def _take(a, n):
    return a[:max(n, 0)]


def _up_to(n):
    # The length is looked at first, so that no list of a million numbers is made.
    if n > LIST_LIMIT:
        return None
    return tuple(range(1, n + 1))


def _zip_add(a, b):
    return tuple([n + m for n, m in zip(a, b)])


LIST_ACTIONS = {
    "add_each": _add_each,
    "append": _append,
    "at": _at,
    "count_of": _count_of,
    "distinct": _distinct,
    "drop": _drop,
    "first": _first,
    "greatest": _greatest,
    "is_empty": _is_empty,
    "join": _join,
    "keep_above": _keep_above,
    "keep_even": _keep_even,
    "last": _last,
    "least": _least,
    "prepend": _prepend,
    "product": _product,
    "rest": _rest,
    "reverse": _reverse,
    "running": _running,
    "same_list": _same_list,
    "size": _size,
    "sort": _sort,
    "sum": _sum,
    "take": _take,
    "up_to": _up_to,
    "zip_add": _zip_add,
}
