"""Which variables of a program are visible at a line."""

from farenough.outlines import BLOCKS


class Scope:
    """The variables that are visible at the line of a program that was reached. Each name has a value."""

    def __init__(self):
        # Pairs of a name and its value, in the order in which they were introduced; the values of those to be seen.
        self._rows = []
        self._values = {}
        # How many variables there were where each part began that is not ended.
        self._starts = []
        # The variables of the first line, which are not visible in a definition.
        self._hidden = 0

    def is_within_block(self):
        """Whether the line that was reached is within a block."""
        return len(self._starts) > 0

    def visible(self):
        """The list of the visible names, each with its value, in the order in which they were introduced."""
        return self._rows[self._hidden:]

    def value_of(self, name):
        """The value of a name, or None if it is not visible."""
        return self._values.get(name)

    def goes_over(self, word, rows):
        """Goes on behind a line with this first word, which introduces these pairs of a name and a value."""
        if word in ("else", "end"):
            self._end_part()
        if word == "define":
            self._hidden = len(self._rows)
            self._values = {}
        if word in BLOCKS or word == "else":
            self._starts.append(len(self._rows))
        for name, value in rows:
            self._rows.append((name, value))
            self._values[name] = value

    def _end_part(self):
        start = self._starts.pop()
        for name, _ in self._rows[start:]:
            del self._values[name]
        del self._rows[start:]
        if not self._starts and self._hidden:
            self._values = {name: value for name, value in self._rows}
            self._hidden = 0
