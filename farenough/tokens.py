"""The tokens of a line of a program."""

from farenough.steps import LONGEST_TEXT, is_name

LONGEST_NUMBER = 12
FUNCTIONS = ("size", "part", "find", "split", "join", "item", "sorted", "turned", "times", "value", "digits")
KEYWORDS = (
    "recipe", "define", "gives", "give", "let", "set", "read", "from", "write", "stop", "if", "else", "end", "repeat",
    "as", "for", "in", "leave", "again", "mod", "and", "or", "not", "known", "text", "number", "list",
)
SIGNS = ("(", ")", "[", "]", ",", ".", "+", "-", "*", "/", "&", "=", "!=", "<", "<=", ">", ">=")


def tokens_of(line):
    """The list of the tokens of a line, or None if something in it is no token.

    A token is a pair: `name`, `number` or `text` and the value, or `mark` and a keyword or sign.
    """
    tokens, at = [], 0
    while at < len(line):
        if line[at] == " ":
            at += 1
        else:
            end = _end_of_token(line, at)
            token = _token(line[at:end])
            if token is None:
                return None
            tokens.append(token)
            at = end
    return tokens


def _end_of_token(line, at):
    if line[at] == '"':
        end = line.find('"', at + 1)
        return len(line) if end < 0 else end + 1
    if line[at].isalnum():
        end = at + 1
        while end < len(line) and line[end].isalnum():
            end += 1
        return end
    return at + 2 if line[at:at + 2] in SIGNS else at + 1


def _token(piece):
    """The token that a piece of a line is, or None."""
    if piece[0] == '"':
        closed = len(piece) > 1 and piece[-1] == '"'
        return ("text", piece[1:-1]) if closed and len(piece) - 2 <= LONGEST_TEXT else None
    if piece in SIGNS or piece in KEYWORDS or piece in FUNCTIONS:
        return "mark", piece
    if writes_number(piece):
        return "number", int(piece)
    return ("name", piece) if is_name(piece) else None


def writes_number(text):
    """Whether a text is the token of a number."""
    if not text.isdigit() or len(text) > LONGEST_NUMBER:
        return False
    return text[0] != "0" or text == "0"
