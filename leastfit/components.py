"""The library of components: their names, kinds and results.

SIGNATURES has for each component the kinds of its arguments and the kind of its result.
"""

from leastfit.errors import NotFound
from leastfit.list_actions import LIST_ACTIONS
from leastfit.number_actions import NUMBER_ACTIONS
from leastfit.text_actions import TEXT_ACTIONS
from leastfit.values import is_value

SIGNATURES = {
    "abs": (("number",), "number"),
    "add": (("number", "number"), "number"),
    "add_each": (("list", "number"), "list"),
    "append": (("list", "number"), "list"),
    "at": (("list", "number"), "number"),
    "both": (("truth", "truth"), "truth"),
    "choose_list": (("truth", "list", "list"), "list"),
    "choose_number": (("truth", "number", "number"), "number"),
    "choose_text": (("truth", "text", "text"), "text"),
    "concat": (("text", "text"), "text"),
    "contains": (("text", "text"), "truth"),
    "count_of": (("list", "number"), "number"),
    "distinct": (("list",), "list"),
    "divide": (("number", "number"), "number"),
    "double": (("number",), "number"),
    "drop": (("list", "number"), "list"),
    "either": (("truth", "truth"), "truth"),
    "equal": (("number", "number"), "truth"),
    "first": (("list",), "number"),
    "greatest": (("list",), "number"),
    "half": (("number",), "number"),
    "is_empty": (("list",), "truth"),
    "is_even": (("number",), "truth"),
    "join": (("list", "list"), "list"),
    "keep_above": (("list", "number"), "list"),
    "keep_even": (("list",), "list"),
    "last": (("list",), "number"),
    "least": (("list",), "number"),
    "length": (("text",), "number"),
    "less": (("number", "number"), "truth"),
    "max": (("number", "number"), "number"),
    "min": (("number", "number"), "number"),
    "mod": (("number", "number"), "number"),
    "mul": (("number", "number"), "number"),
    "neg": (("number",), "number"),
    "negate": (("truth",), "truth"),
    "number_text": (("number",), "text"),
    "prepend": (("number", "list"), "list"),
    "product": (("list",), "number"),
    "repeat": (("text", "number"), "text"),
    "rest": (("list",), "list"),
    "reverse": (("list",), "list"),
    "reverse_text": (("text",), "text"),
    "running": (("list",), "list"),
    "same_list": (("list", "list"), "truth"),
    "same_text": (("text", "text"), "truth"),
    "size": (("list",), "number"),
    "skip": (("text", "number"), "text"),
    "sort": (("list",), "list"),
    "start": (("text", "number"), "text"),
    "sub": (("number", "number"), "number"),
    "sum": (("list",), "number"),
    "take": (("list", "number"), "list"),
    "text_number": (("text",), "number"),
    "up_to": (("number",), "list"),
    "words": (("text",), "number"),
    "zip_add": (("list", "list"), "list"),
}

CHOICES = ("choose_list", "choose_number", "choose_text")

COMMUTATIVE = ("add", "both", "either", "equal", "max", "min", "mul", "same_list", "same_text", "zip_add")


def is_component(name):
    """Return True if there is a component of this name. The name may be anything."""
    return isinstance(name, str) and name in SIGNATURES


def names():
    """Return the list of the names of all components in ascending order."""
    return sorted(SIGNATURES)


def argument_kinds(name):
    """Return the list of the kinds of a component's arguments. Raise NotFound."""
    if not is_component(name):
        raise NotFound(name)
    return list(SIGNATURES[name][0])


def result_kind(name):
    """Return the kind of a component's result. Raise NotFound."""
    if not is_component(name):
        raise NotFound(name)
    return SIGNATURES[name][1]


def is_commutative(name):
    """Return True if a component is commutative. Raise NotFound."""
    if not is_component(name):
        raise NotFound(name)
    return name in COMMUTATIVE


def apply(name, outcomes):
    """Return the outcome of a component for the outcomes of its arguments. Raise NotFound."""
    if not is_component(name):
        raise NotFound(name)
    if name in CHOICES:
        return _chosen(*outcomes)
    if None in outcomes:
        return None
    result = _result(name, outcomes)
    return result if is_value(SIGNATURES[name][1], result) else None


def _chosen(truth, second, third):
    if truth is None:
        return None
    return second if truth else third


def _result(name, values):
    if name in NUMBER_ACTIONS:
        action = NUMBER_ACTIONS[name]
    elif name in TEXT_ACTIONS:
        action = TEXT_ACTIONS[name]
    else:
        action = LIST_ACTIONS[name]
    return action(*values)
