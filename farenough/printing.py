"""Programs as texts."""

from farenough.outlines import BLOCKS


def text_of(lines):
    """The text of a program with these lines."""
    rows, depth = [], 0
    for line in lines:
        if line.word in ("else", "end"):
            depth -= 1
        rows.append("  " * depth + _line_text(line))
        if line.word in BLOCKS or line.word == "else":
            depth += 1
    return "\n".join(rows)


def _line_text(line):
    word, names, texts = line.word, line.introduced, line.shown
    if word == "recipe":
        return " ".join([word, *names])
    if word == "define":
        return _definition_text(line, names)
    if word == "let":
        return f"let {names[0]} = {texts[0]}"
    if word == "set":
        return f"set {line.named(word)[0]} = {texts[0]}"
    if word == "give":
        return f"give {texts[0]}"
    if word == "read":
        reads = [f"{name} from {texts[2 * at]} . {texts[2 * at + 1]}" for at, name in enumerate(names)]
        return "read " + ", ".join(reads)
    if word == "write":
        return f"write {texts[0]} = {texts[1]}"
    if word == "if":
        groups = [" and ".join([_test_text(test) for test in group]) for group in line.tests]
        return "if " + " or ".join(groups)
    if word == "repeat":
        return f"repeat {texts[0]} as {names[0]}" if names else f"repeat {texts[0]}"
    return f"for {names[0]} in {texts[0]}" if word == "for" else word


def _definition_text(line, names):
    function, = line.named("function")
    *takes, gives = line.kinds
    parameters = ", ".join([f"{kind} {name}" for kind, name in zip(takes, names)])
    return f"define {function} ({parameters}) gives {gives}"


def _test_text(test):
    nots, name, _, texts = test
    if name == "known":
        return "not " * nots + f"known {texts[0]}"
    return "not " * nots + f"{texts[0]} {name} {texts[1]}"
