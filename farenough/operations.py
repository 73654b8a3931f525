"""What the operators, functions and tests of programs take, and what they do."""

from farenough.steps import LONGEST_TEXT
from farenough.tokens import writes_number

LONGEST_LIST = 60
GREATEST_NUMBER = 1_000_000_000_000

# For each name the kinds that its operands may have, and the kind of the result.
OPERATIONS = {
    "+": ((("number", "number"), "number"),),
    "-": ((("number", "number"), "number"),),
    "*": ((("number", "number"), "number"),),
    "/": ((("number", "number"), "number"),),
    "mod": ((("number", "number"), "number"),),
    "&": ((("text", "text"), "text"), (("list", "list"), "list")),
    "else": ((("answer", "text"), "text"), (("answer", "answer"), "answer")),
    "neg": ((("number",), "number"),),
    "size": ((("text",), "number"), (("list",), "number")),
    "part": ((("text", "number", "number"), "text"),),
    "find": ((("text", "text"), "number"),),
    "split": ((("text", "text"), "list"),),
    "join": ((("list", "text"), "text"),),
    "item": ((("list", "number"), "text"),),
    "sorted": ((("list",), "list"),),
    "turned": ((("list",), "list"),),
    "times": ((("text", "number"), "text"),),
    "value": ((("text",), "number"),),
    "digits": ((("number",), "text"),),
}

# For each name the kinds that its operands may have.
TESTS = {
    "=": (("text", "text"), ("number", "number"), ("list", "list")),
    "!=": (("text", "text"), ("number", "number"), ("list", "list")),
    "<": (("text", "text"), ("number", "number")),
    "<=": (("text", "text"), ("number", "number")),
    ">": (("text", "text"), ("number", "number")),
    ">=": (("text", "text"), ("number", "number")),
    "in": (("text", "list"), ("text", "text")),
    "known": (("answer",),),
}


class Fault(Exception):
    """What makes a program stop in place of what it would do next."""


def fits(value):
    """Whether a value is not too great and not too long for an expression."""
    if isinstance(value, str):
        return len(value) <= LONGEST_TEXT
    if isinstance(value, int):
        return -GREATEST_NUMBER <= value <= GREATEST_NUMBER
    return value is None or len(value) <= LONGEST_LIST


def within_bounds(value):
    """The value of an expression; raises Fault if it is too great or too long."""
    if not fits(value):
        raise Fault()
    return value


def _plus(left, right):
    number = left + right
    if -GREATEST_NUMBER <= number <= GREATEST_NUMBER:
        return number
    raise Fault()


def _minus(left, right):
    number = left - right
    if -GREATEST_NUMBER <= number <= GREATEST_NUMBER:
        return number
    raise Fault()


def _product(left, right):
    number = left * right
    if -GREATEST_NUMBER <= number <= GREATEST_NUMBER:
        return number
    raise Fault()


def _quotient(left, right):
    if right == 0:
        raise Fault()
    return within_bounds(left // right)


def _remainder(left, right):
    if right == 0:
        raise Fault()
    return within_bounds(left % right)


def _together(left, right):
    return within_bounds(left + right)


def _either(left, right):
    return within_bounds(right if left is None else left)


def _negative(number):
    return within_bounds(-number)


def _size(value):
    return len(value)


def _part(text, begin, end):
    return within_bounds(text[max(begin, 0):max(end, 0)])


def _place(text, other):
    return text.find(other)


def _pieces(text, other):
    return within_bounds(tuple(text.split(other)) if other else tuple(text))


def _joined(texts, text):
    return within_bounds(text.join(texts))


def _item(texts, number):
    return within_bounds(texts[number]) if 0 <= number < len(texts) else ""


def _ascending(texts):
    return within_bounds(tuple(sorted(texts)))


def _turned(texts):
    return within_bounds(texts[::-1])


def _times(text, number):
    # The length is looked at first, since the number may be very great.
    if len(text) * number > LONGEST_TEXT:
        raise Fault()
    return text * number


def _value(text):
    if text[:1] == "-" and writes_number(text[1:]):
        return -int(text[1:])
    return int(text) if writes_number(text) else 0


def _digits(number):
    return str(number)


def _equals(left, right):
    return left == right


def _differs(left, right):
    return left != right


def _is_below(left, right):
    return left < right


def _is_at_most(left, right):
    return left <= right


def _is_above(left, right):
    return left > right


def _is_at_least(left, right):
    return left >= right


def _is_in(left, right):
    return left in right


def _is_known(answer):
    return answer is not None


def _is_not(truth):
    return not truth


# For each operator, function and test how many operands it takes, and what it does. Actions raise Fault.
ACTIONS = {
    "+": (2, _plus), "-": (2, _minus), "*": (2, _product), "/": (2, _quotient), "mod": (2, _remainder),
    "&": (2, _together), "else": (2, _either), "neg": (1, _negative), "size": (1, _size), "part": (3, _part),
    "find": (2, _place), "split": (2, _pieces), "join": (2, _joined), "item": (2, _item), "sorted": (1, _ascending),
    "turned": (1, _turned), "times": (2, _times), "value": (1, _value), "digits": (1, _digits),
    "=": (2, _equals), "!=": (2, _differs), "<": (2, _is_below), "<=": (2, _is_at_most), ">": (2, _is_above),
    ">=": (2, _is_at_least), "in": (2, _is_in), "known": (1, _is_known), "not": (1, _is_not),
}


def taken(stack, many):
    """Takes this many values from the end of a stack; the list of them, the last one last."""
    begin = len(stack) - many
    values = stack[begin:]
    del stack[begin:]
    return values
