"""Outlines: which lines of a program may stand where."""

DEEPEST = 30
BLOCKS = ("define", "if", "repeat", "for")
LOOPS = ("repeat", "for")


class Outline:
    """The blocks around the place that was reached in a program, told by their first words."""

    def __init__(self):
        # A block whose `else` was reached is told by that word.
        self._blocks = []
        self._has_begun = False
        self._has_statement = False

    def is_whole(self):
        """Whether a program may end here."""
        return self._has_begun and not self._blocks

    def takes(self, word):
        """Goes over a line with this first word, if it may stand here; whether it may."""
        if not self._may_stand(word):
            return False
        self._has_begun = True
        if word not in ("recipe", "define", "end") and not self._blocks:
            self._has_statement = True
        if word in BLOCKS:
            self._blocks.append(word)
        elif word == "else":
            self._blocks[-1] = word
        elif word == "end":
            self._blocks.pop()
        return True

    def _may_stand(self, word):
        if word == "recipe" or not self._has_begun:
            return word == "recipe" and not self._has_begun
        if word in BLOCKS and len(self._blocks) == DEEPEST:
            return False
        if word == "define":
            return not self._blocks and not self._has_statement
        if word == "else":
            return self._blocks[-1:] == ["if"]
        if word == "end":
            return len(self._blocks) > 0
        return self._may_be_done(word)

    def _may_be_done(self, word):
        """Whether a statement may stand here."""
        if word == "give":
            return "define" in self._blocks
        if word in ("read", "write", "stop"):
            return "define" not in self._blocks
        if word in ("leave", "again"):
            return any([loop in self._blocks for loop in LOOPS])
        return True
