"""Programs: recipes in writing."""

from farenough.checking import Checker
from farenough.compiling import Compiler
from farenough.lines import lines_of
from farenough.printing import text_of


class Program:
    """A recipe in writing."""

    def __init__(self, text):
        self._lines = lines_of(text)
        checker = Checker()
        for line in self._lines:
            checker.check(line)
        self._text = text_of(self._lines)
        self._code = Compiler(self._lines).code()
        self._arguments = tuple(self._lines[0].introduced)
        self._functions = tuple([line.named("function")[0] for line in self._lines if line.word == "define"])

    @classmethod
    def read(cls, text):
        """The program with this text; raises BadLine, BadName or BadKind."""
        return cls(text)

    def __eq__(self, other):
        return isinstance(other, Program) and self._text == other._text

    @property
    def text(self):
        """The program in its plain form."""
        return self._text

    @property
    def arguments(self):
        """The tuple of the names in its first line."""
        return self._arguments

    @property
    def functions(self):
        """The tuple of the names of its functions, in order."""
        return self._functions

    def code(self):
        """The code that does what the program does."""
        return self._code
