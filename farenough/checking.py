"""Whether the names and kinds in a program fit."""

from farenough.errors import BadKind, BadName
from farenough.operations import OPERATIONS, TESTS, taken
from farenough.outlines import LOOPS
from farenough.scopes import Scope

# The kind of all expressions of a line.
_WANTED = {"read": "text", "write": "text", "repeat": "number", "for": "list"}


class Checker:
    """Goes over the lines of a program, one after the other. Raises BadName and BadKind."""

    def __init__(self):
        # The value of each variable is its kind, and whether it may be set.
        self._scope = Scope()
        self._first_names = []
        # The names of all functions whose definitions have begun.
        self._begun = []
        # What the functions that may be called take and give.
        self._functions = {}
        # The name of the function whose definition is not ended, and what it takes and gives.
        self._inner = None

    def check(self, line):
        """Goes over a line."""
        self._check_names(line)
        kinds = [self._kind_of(code) for code in line.codes]
        if kinds and (None in kinds or not self._fits(line, kinds)):
            raise BadKind(line.number)
        self._scope.goes_over(line.word, _introduced(line, kinds))
        if line.word == "recipe":
            self._first_names = line.introduced
        elif line.word == "define":
            *takes, gives = line.kinds
            self._inner = (line.named("function")[0], tuple(takes), gives)
        elif self._inner is not None and not self._scope.is_within_block():
            name, takes, gives = self._inner
            self._functions[name] = ((takes, gives),)
            self._inner = None

    def _check_names(self, line):
        introduced = []
        for role, name in line.uses:
            if role == "use":
                right = self._scope.value_of(name) is not None
            elif role == "function":
                right = name not in self._first_names and name not in self._begun
                self._begun.append(name)
            elif role == "new":
                visible = line.word != "define" and self._scope.value_of(name) is not None
                right = not visible and name not in self._begun and name not in introduced
                introduced.append(name)
            else:
                right = self._may_be_used(role, name)
            if not right:
                raise BadName(line.number, name)

    def _may_be_used(self, role, name):
        """Whether a line may `call` or `set` a name."""
        if role == "call":
            return name in self._functions
        variable = self._scope.value_of(name)
        return variable is not None and variable[1]

    def _fits(self, line, kinds):
        """Whether a line may have expressions of these kinds."""
        if line.word == "if":
            return _tests_fit(line.tests, kinds)
        if line.word == "let":
            return True
        if line.word == "set":
            kind, _ = self._scope.value_of(line.named("set")[0])
        elif line.word == "give":
            _, _, kind = self._inner
        else:
            kind = _WANTED.get(line.word)
        return all([other == kind for other in kinds])

    def _kind_of(self, code):
        """The kind of an expression, or None if something in it does not fit."""
        kinds = []
        for word, value, many in code:
            if word == "text" or word == "number":
                kinds.append(word)
            elif word == "name":
                kinds.append(self._scope.value_of(value)[0])
            else:
                kind = self._kind_of_several(word, value, tuple(taken(kinds, many)))
                if kind is None:
                    return None
                kinds.append(kind)
        return kinds[0]

    def _kind_of_several(self, word, value, operands):
        """The kind of a part that has operands of these kinds, or None."""
        if word == "op":
            return _result_kind(OPERATIONS[value], operands)
        if word == "call":
            return _result_kind(self._functions[value], operands)
        return "list" if all([kind == "text" for kind in operands]) else None


def _result_kind(forms, operands):
    for takes, gives in forms:
        if takes == operands:
            return gives
    return None


def _tests_fit(tests, kinds):
    """Whether tests may have expressions of these kinds, from the left."""
    begin = 0
    for group in tests:
        for _, name, codes, _ in group:
            end = begin + len(codes)
            if tuple(kinds[begin:end]) not in TESTS[name]:
                return False
            begin = end
    return True


def _introduced(line, kinds):
    """The variables that a line with expressions of these kinds introduces."""
    names = line.introduced
    if not names:
        return []
    if line.word == "define":
        kinds = line.kinds
    elif line.word == "read":
        kinds = ["answer"] * len(names)
    elif line.word not in ("let", "repeat"):
        kinds = ["text"] * len(names)
    return [(name, (kind, line.word not in LOOPS)) for name, kind in zip(names, kinds)]
