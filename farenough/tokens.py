"""The tokens of a line of a program."""

from farenough.steps import LONGEST_TEXT, is_name

LONGEST_NUMBER = 12
# The keywords and signs.
MARKS = {
    "recipe": "keyword", "define": "keyword", "gives": "keyword", "give": "keyword", "let": "keyword", "set": "keyword",
    "read": "keyword", "from": "keyword", "write": "keyword", "stop": "keyword", "if": "keyword", "else": "keyword",
    "end": "keyword", "repeat": "keyword", "as": "keyword", "for": "keyword", "in": "keyword", "leave": "keyword",
    "again": "keyword", "mod": "keyword", "and": "keyword", "or": "keyword", "not": "keyword", "known": "keyword",
    "text": "keyword", "number": "keyword", "list": "keyword", "size": "function", "part": "function",
    "find": "function", "split": "function", "join": "function", "item": "function", "sorted": "function",
    "turned": "function", "times": "function", "value": "function", "digits": "function", "(": "sign", ")": "sign",
    "[": "sign", "]": "sign", ",": "sign", ".": "sign", "+": "sign", "-": "sign", "*": "sign", "/": "sign", "&": "sign",
    "=": "sign", "!=": "sign", "<": "sign", "<=": "sign", ">": "sign", ">=": "sign",
}
# What ends the token ahead of it. The mark of a quoted text stands for all of it.
_SINGLE_SIGNS = "()[],.+-*/&=<>!\""


def tokens_of(lines):
    """For each line of a program in which every quoted text is closed, the list of its tokens.

    A keyword or sign stands as it is. Other tokens are parts of expressions: `name`, `number` or `text`, the value, and
    how many operands it takes, which is 0. None stands for something that is no token.
    """
    # Every second piece is a quoted text. The signs are looked for in all that stands between them at once.
    pieces = "\n".join(lines).split('"')
    texts = pieces[1::2]
    rows = []
    many = 0
    known = {}
    for line in _spread('"'.join(pieces[::2])).split("\n"):
        tokens = []
        for word in line.split(" "):
            if word == '"':
                tokens.append(_text_token(texts[many]))
                many += 1
            elif word:
                if word not in known:
                    known[word] = _token(word)
                tokens.append(known[word])
        rows.append(tokens)
    return rows


def _spread(line):
    """Lines in which spaces stand around each sign."""
    for sign in _SINGLE_SIGNS:
        if sign in line:
            line = line.replace(sign, f" {sign} ")
    # There are just two spaces between signs that stood side by side.
    for sign in ("<", ">", "!"):
        line = line.replace(f"{sign}  =", f"{sign}=")
    return line


def _text_token(text):
    return ("text", text, 0) if len(text) <= LONGEST_TEXT else None


def _token(word):
    """The token that a word or sign is, or None."""
    if word in MARKS:
        return word
    if writes_number(word):
        return "number", int(word), 0
    return ("name", word, 0) if is_name(word) else None


def writes_number(text):
    """Whether a string is the token of a number."""
    if not text.isascii() or not text.isdigit() or len(text) > LONGEST_NUMBER:
        return False
    return text[0] != "0" or text == "0"
