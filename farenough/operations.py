"""What the operators, functions and tests of programs take, and what they do."""

from farenough.steps import LONGEST_TEXT
from farenough.tokens import writes_number

LONGEST_LIST = 60
GREATEST_NUMBER = 1_000_000_000_000

# For each name the kinds that its operands may have, and the kind of the result.
OPERATIONS = {
    "+": ((("number", "number"), "number"),),
    "-": ((("number", "number"), "number"),),
    "*": ((("number", "number"), "number"),),
    "/": ((("number", "number"), "number"),),
    "mod": ((("number", "number"), "number"),),
    "&": ((("text", "text"), "text"), (("list", "list"), "list")),
    "else": ((("answer", "text"), "text"), (("answer", "answer"), "answer")),
    "neg": ((("number",), "number"),),
    "size": ((("text",), "number"), (("list",), "number")),
    "part": ((("text", "number", "number"), "text"),),
    "find": ((("text", "text"), "number"),),
    "split": ((("text", "text"), "list"),),
    "join": ((("list", "text"), "text"),),
    "item": ((("list", "number"), "text"),),
    "sorted": ((("list",), "list"),),
    "turned": ((("list",), "list"),),
    "times": ((("text", "number"), "text"),),
    "value": ((("text",), "number"),),
    "digits": ((("number",), "text"),),
}

# For each name the kinds that its operands may have.
TESTS = {
    "=": (("text", "text"), ("number", "number"), ("list", "list")),
    "!=": (("text", "text"), ("number", "number"), ("list", "list")),
    "<": (("text", "text"), ("number", "number")),
    "<=": (("text", "text"), ("number", "number")),
    ">": (("text", "text"), ("number", "number")),
    ">=": (("text", "text"), ("number", "number")),
    "in": (("text", "list"), ("text", "text")),
    "known": (("answer",),),
}


class Fault(Exception):
    """What makes a program stop in place of what it would do next."""


def _plus(left, right):
    return left + right


def _minus(left, right):
    return left - right


def _product(left, right):
    return left * right


def _quotient(left, right):
    if right == 0:
        raise Fault()
    return left // right


def _remainder(left, right):
    if right == 0:
        raise Fault()
    return left % right


def _either(left, right):
    return right if left is None else left


def _negative(number):
    return -number


def _size(value):
    return len(value)


def _part(text, begin, end):
    return text[max(begin, 0):max(end, 0)]


def _place(text, other):
    return text.find(other)


def _pieces(text, other):
    return tuple(text.split(other)) if other else tuple(text)


def _joined(texts, text):
    return text.join(texts)


def _item(texts, number):
    return texts[number] if 0 <= number < len(texts) else ""


def _ascending(texts):
    return tuple(sorted(texts))


def _turned(texts):
    return texts[::-1]


def _times(text, number):
    # The length is looked at first, since the number may be very great.
    if len(text) * number > LONGEST_TEXT:
        raise Fault()
    return text * number


def _value(text):
    if text[:1] == "-" and writes_number(text[1:]):
        return -int(text[1:])
    return int(text) if writes_number(text) else 0


def _digits(number):
    return str(number)


def _equals(left, right):
    return left == right


def _differs(left, right):
    return left != right


def _is_below(left, right):
    return left < right


def _is_at_most(left, right):
    return left <= right


def _is_above(left, right):
    return left > right


def _is_at_least(left, right):
    return left >= right


def _is_in(left, right):
    return left in right


def _is_known(answer):
    return answer is not None


def _is_not(truth):
    return not truth


_ACTIONS = {
    "+": _plus, "-": _minus, "*": _product, "/": _quotient, "mod": _remainder, "&": _plus, "else": _either,
    "neg": _negative, "size": _size, "part": _part, "find": _place, "split": _pieces, "join": _joined, "item": _item,
    "sorted": _ascending, "turned": _turned, "times": _times, "value": _value, "digits": _digits,
}
_DECISIONS = {
    "=": _equals, "!=": _differs, "<": _is_below, "<=": _is_at_most, ">": _is_above, ">=": _is_at_least, "in": _is_in,
    "known": _is_known, "not": _is_not,
}


def taken(stack, many):
    """Takes this many values from the end of a stack; the list of them, the last one last."""
    begin = len(stack) - many
    values = stack[begin:]
    del stack[begin:]
    return values


def operands_of(name):
    """How many operands an operator, a function or a test takes."""
    if name in OPERATIONS:
        return len(OPERATIONS[name][0][0])
    return len(TESTS[name][0]) if name in TESTS else 1


def result_of(name, operands):
    """The value of an operator or a function; raises Fault."""
    action = _ACTIONS[name]
    return within_bounds(action(*operands))


def truth_of(name, operands):
    """The truth of a test."""
    decision = _DECISIONS[name]
    return decision(*operands)


def within_bounds(value):
    """The value of an expression; raises Fault if it is too great or too long."""
    if isinstance(value, int):
        fits = -GREATEST_NUMBER <= value <= GREATEST_NUMBER
    elif isinstance(value, str):
        fits = len(value) <= LONGEST_TEXT
    else:
        fits = value is None or len(value) <= LONGEST_LIST
    if not fits:
        raise Fault()
    return value
