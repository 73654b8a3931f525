"""The lines of a program: which forms they have, and where they may stand."""

from farenough.errors import BadLine
from farenough.outlines import DEEPEST, Outline
from farenough.steps import MOST_ARGUMENTS, MOST_KEYS
from farenough.tokens import MARKS, tokens_of

MOST_PARAMETERS = 4
# The operators by how tightly they bind, the loosest ones first.
_LEVELS = {"else": 0, "+": 1, "-": 1, "&": 1, "*": 2, "/": 2, "mod": 2}
# The level of what is never put in parentheses: it is above those in _LEVELS.
_UNIT = 3
_COMPARISONS = ("=", "!=", "<", "<=", ">", ">=", "in")
_KINDS = ("text", "number", "list")


class Line:
    """A line of a program.

    `uses` has all names from the left, each behind what the line does with it: `new`, `function`, `set`, `use` or
    `call`. `codes` has the expressions of the line. An expression is a tuple of parts in the order in which a machine
    with a stack does them: `number`, `text`, `name`, `list`, `op` (an operator, or a function that all programs have)
    or `call` (one of its own), then the value or the name, then the number of operands that are taken from the stack.
    `shown` has the texts of the expressions. `tests` has the condition of an `if`: in tuples of which one has to hold,
    tests that all have to hold. A test has the number of times that `not` stands before it, its name, its expressions,
    and their texts. `kinds` has the kinds of the parameters and of the result of a definition, `introduced` the names
    that are new, from the left.
    """

    def __init__(self, word, number, reader):
        self.word = word
        self.number = number
        self.uses = reader.uses
        self.codes = reader.codes
        self.shown = reader.shown
        self.tests = reader.tests
        self.kinds = reader.kinds
        self.introduced = self.named("new")

    def named(self, role):
        """The names with which the line does this, from the left."""
        return [name for use, name in self.uses if use == role]


class LineReader:
    """Reads the tokens of one line from the left, and keeps what the line has. Raises BadLine."""

    def __init__(self, tokens, number):
        # What stands at the end is no token.
        self._tokens = [*tokens, ""]
        self._number = number
        self._at = 0
        self._depth = 0
        self.uses = []
        self.codes = []
        self.shown = []
        self.tests = []
        self.kinds = []

    def read_line(self):
        """The line that the tokens make."""
        word = self._tokens[0]
        if word not in _FORMS:
            raise BadLine(self._number)
        self._at = 1
        form = _FORMS[word]
        form(self)
        if self.sees_more():
            raise BadLine(self._number)
        return Line(word, self._number, self)

    def sees_more(self):
        """Whether a token is left."""
        return self._at < len(self._tokens) - 1

    def sees(self, mark):
        """Whether this keyword or sign comes next."""
        return self._tokens[self._at] == mark

    def _next_of(self, marks):
        """Goes over one of these keywords and signs; which it is."""
        token = self._tokens[self._at]
        if token not in marks:
            raise BadLine(self._number)
        self._at += 1
        return token

    def read_mark(self, mark):
        """Goes over this keyword or sign."""
        if not self.goes_over(mark):
            raise BadLine(self._number)

    def goes_over(self, mark):
        """Goes over this keyword or sign, if it comes next; whether it did."""
        if self._tokens[self._at] != mark:
            return False
        self._at += 1
        return True

    def read_name(self, role):
        """Reads a name with which the line does this."""
        token = self._tokens[self._at]
        if token[:1] != ("name",):
            raise BadLine(self._number)
        self._at += 1
        self.uses.append((role, token[1]))

    def read_kind(self):
        """Reads a kind."""
        self.kinds.append(self._next_of(_KINDS))

    def read_several(self, most, form):
        """Reads one of a form, and more of them behind commas."""
        many = 1
        form(self)
        while self.goes_over(","):
            many += 1
            form(self)
        if many > most:
            raise BadLine(self._number)

    def read_first_names(self):
        """Reads the names in the first line."""
        while self.sees_more():
            self.read_name("new")
        if len(self.uses) > MOST_ARGUMENTS or len(set(self.uses)) < len(self.uses):
            raise BadLine(self._number)

    def read_expression(self):
        """Reads an expression."""
        code = []
        text, _ = self._joined(0, code)
        self.codes.append(tuple(code))
        self.shown.append(text)

    def _joined(self, least, code):
        """Reads what operators of at least this level join; how it is shown, and its level."""
        text, level = self._unit(code)
        sign = self._tokens[self._at]
        while sign in _LEVELS and _LEVELS[sign] >= least:
            self._at += 1
            joining = _LEVELS[sign]
            right, tightness = self._joined(joining + 1, code)
            code.append(("op", sign, 2))
            # Operators of one level are done from the left on: only on the right they need parentheses.
            left = text if level >= joining else f"({text})"
            text = f"{left} {sign} {right}" if tightness > joining else f"{left} {sign} ({right})"
            level = joining
            sign = self._tokens[self._at]
        return text, level

    def _unit(self, code):
        """Reads a unit; how it is shown, and its level, which is that of what is in it if parentheses stand around."""
        token = self._tokens[self._at]
        # Behind the last token there is only the end, which is no unit.
        self._at += 1
        if isinstance(token, str):
            return self._call("op", token, code) if MARKS.get(token) == "function" else self._inner_unit(token, code)
        kind, value, _ = token
        if kind == "name":
            if self._tokens[self._at] == "(":
                self.uses.append(("call", value))
                return self._call("call", value, code)
            self.uses.append(("use", value))
        code.append(token)
        if kind == "name":
            return value, _UNIT
        return str(value) if kind == "number" else f'"{value}"', _UNIT

    def _call(self, word, name, code):
        self.read_mark("(")
        shown = self._inner_list(")", code)
        code.append((word, name, len(shown)))
        return f"{name}({', '.join(shown)})", _UNIT

    def _inner_unit(self, sign, code):
        """Reads on behind a sign that begins a unit."""
        if sign == "[":
            shown = self._inner_list("]", code)
            code.append(("list", "", len(shown)))
            return f"[{', '.join(shown)}]", _UNIT
        if sign not in ("(", "-"):
            raise BadLine(self._number)
        self._deeper()
        if sign == "(":
            text, level = self._joined(0, code)
            self.read_mark(")")
        else:
            text, level = self._unit(code)
            text = f"-{text}" if level == _UNIT else f"-({text})"
            level = _UNIT
            code.append(("op", "neg", 1))
        self._depth -= 1
        return text, level

    def _inner_list(self, end, code):
        """Reads expressions up to the sign that ends them; the list of how they are shown."""
        shown = []
        self._deeper()
        if not self.goes_over(end):
            shown.append(self._joined(0, code)[0])
            while self.goes_over(","):
                shown.append(self._joined(0, code)[0])
            self.read_mark(end)
        self._depth -= 1
        return shown

    def _deeper(self):
        self._depth += 1
        if self._depth > DEEPEST:
            raise BadLine(self._number)

    def read_condition(self):
        """Reads a condition."""
        groups = [[self._test()]]
        while self.sees("and") or self.sees("or"):
            if self._next_of(("and", "or")) == "or":
                groups.append([])
            groups[-1].append(self._test())
        self.tests = [tuple(group) for group in groups]

    def _test(self):
        nots = 0
        while self.goes_over("not"):
            self._deeper()
            nots += 1
        begin = len(self.codes)
        if self.goes_over("known"):
            name = "known"
            self.read_expression()
        else:
            self.read_expression()
            name = self._next_of(_COMPARISONS)
            self.read_expression()
        self._depth -= nots
        return nots, name, tuple(self.codes[begin:]), tuple(self.shown[begin:])


def _recipe(reader):
    reader.read_first_names()


def _define(reader):
    reader.read_name("function")
    reader.read_mark("(")
    if not reader.sees(")"):
        reader.read_several(MOST_PARAMETERS, _parameter)
    reader.read_mark(")")
    reader.read_mark("gives")
    reader.read_kind()


def _parameter(reader):
    reader.read_kind()
    reader.read_name("new")


def _one_expression(reader):
    reader.read_expression()


def _let(reader):
    reader.read_name("new")
    reader.read_mark("=")
    reader.read_expression()


def _set(reader):
    reader.read_name("set")
    reader.read_mark("=")
    reader.read_expression()


def _read(reader):
    reader.read_several(MOST_KEYS, _one_read)


def _one_read(reader):
    reader.read_name("new")
    reader.read_mark("from")
    reader.read_expression()
    reader.read_mark(".")
    reader.read_expression()


def _write(reader):
    reader.read_expression()
    reader.read_mark("=")
    reader.read_expression()


def _if(reader):
    reader.read_condition()


def _repeat(reader):
    reader.read_expression()
    if reader.goes_over("as"):
        reader.read_name("new")


def _for(reader):
    reader.read_name("new")
    reader.read_mark("in")
    reader.read_expression()


def _nothing(reader):
    pass


_FORMS = {
    "recipe": _recipe, "define": _define, "give": _one_expression, "let": _let, "set": _set, "read": _read,
    "write": _write, "stop": _nothing, "if": _if, "else": _nothing, "end": _nothing, "repeat": _repeat, "for": _for,
    "leave": _nothing, "again": _nothing,
}


def lines_of(text):
    """The list of the lines of a program that have tokens; raises BadLine."""
    pieces = text.split("\n")
    unclosed = [number for number, piece in enumerate(pieces) if piece.count('"') & 1]
    end = unclosed[0] if unclosed else len(pieces)
    lines, outline = [], Outline()
    for number, tokens in enumerate(tokens_of(pieces[:end])):
        if None in tokens:
            raise BadLine(number)
        if tokens:
            line = LineReader(tokens, number).read_line()
            if not outline.takes(line.word):
                raise BadLine(number)
            lines.append(line)
    if unclosed or not outline.is_whole():
        raise BadLine(end)
    return lines
