"""Programs as texts."""

from farenough.lines import LEVELS
from farenough.operations import taken
from farenough.outlines import BLOCKS

# The level of what is never put in parentheses: it is above those in LEVELS.
_UNIT = 3


def text_of(lines):
    """The text of a program with these lines."""
    rows, depth = [], 0
    for line in lines:
        if line.word in ("else", "end"):
            depth -= 1
        rows.append("  " * depth + _line_text(line))
        if line.word in BLOCKS or line.word == "else":
            depth += 1
    return "\n".join(rows)


def _line_text(line):
    word, names = line.word, line.introduced
    texts = [_code_text(code) for code in line.codes]
    if word == "recipe":
        return " ".join([word, *names])
    if word == "define":
        return _definition_text(line, names)
    if word == "let":
        return f"let {names[0]} = {texts[0]}"
    if word == "set":
        return f"set {line.named(word)[0]} = {texts[0]}"
    if word == "give":
        return f"give {texts[0]}"
    if word == "read":
        reads = [f"{name} from {texts[2 * at]} . {texts[2 * at + 1]}" for at, name in enumerate(names)]
        return "read " + ", ".join(reads)
    if word == "write":
        return f"write {texts[0]} = {texts[1]}"
    if word == "if":
        groups = [" and ".join([_test_text(test) for test in group]) for group in line.tests]
        return "if " + " or ".join(groups)
    if word == "repeat":
        return f"repeat {texts[0]} as {names[0]}" if names else f"repeat {texts[0]}"
    return f"for {names[0]} in {texts[0]}" if word == "for" else word


def _definition_text(line, names):
    function, = line.named("function")
    *takes, gives = line.kinds
    parameters = ", ".join([f"{kind} {name}" for kind, name in zip(takes, names)])
    return f"define {function} ({parameters}) gives {gives}"


def _test_text(test):
    nots, name, codes = test
    texts = [_code_text(code) for code in codes]
    if name == "known":
        return "not " * nots + f"known {texts[0]}"
    return "not " * nots + f"{texts[0]} {name} {texts[1]}"


def _code_text(code):
    """The text of an expression."""
    # Pairs of the text of a part, and its level.
    stack = []
    for word, value, many in code:
        if word == "name":
            stack.append((value, _UNIT))
        elif word == "number":
            stack.append((str(value), _UNIT))
        elif word == "text":
            stack.append((f'"{value}"', _UNIT))
        else:
            stack.append(_text_of_several(word, value, taken(stack, many)))
    text, _ = stack[0]
    return text


def _text_of_several(word, value, operands):
    """The text of a part that has operands, and its level."""
    if value in LEVELS:
        level = LEVELS[value]
        # Operators of one level are done from the left on, so only the right side needs parentheses then.
        return f"{_within(operands[0], level)} {value} {_within(operands[1], level + 1)}", level
    if value == "neg":
        return f"-{_within(operands[0], _UNIT)}", _UNIT
    inner = ", ".join([text for text, _ in operands])
    return f"[{inner}]" if word == "list" else f"{value}({inner})", _UNIT


def _within(operand, least):
    """The text of an operand, in parentheses if its level is less than this."""
    text, level = operand
    return text if level >= least else f"({text})"
