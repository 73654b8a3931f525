"""The desk: a workshop of programs, a session and a journal that are told what to do row by row."""

from farenough.causes import causes
from farenough.errors import NoRow, Stuck, Taken
from farenough.journals import Journal
from farenough.machines import ProgramRecipe
from farenough.programs import Program
from farenough.projects import Made, Project, Source
from farenough.sessions import Session
from farenough.steps import MOST_ARGUMENTS, is_key, is_name, is_text
from farenough.tokens import writes_number
from farenough.walks import need
from farenough.workshops import Workshop

# For each first word of a row what the other words are. (How many arguments a made target has is free.)
_ROWS = {
    "program": ("name", "rest"), "source": ("name",), "text": ("name", "name", "text"), "erase": ("name", "name"),
    "drop": ("name",), "undo": (), "made": ("name", "recipe"), "ask": ("name", "name"), "news": (),
    "need": ("name", "name"), "causes": ("name", "name"), "cut": ("number",), "show": (),
}
_CHANGES = ("source", "text", "erase", "drop", "undo", "made")
# Of the number of a cut.
_MOST_DIGITS = 6


class Desk:
    """Keeps a workshop of programs, a session and a journal."""

    def __init__(self):
        self._workshop = Workshop({})
        self._session = Session(self._workshop, Project({}))
        self._journal = Journal()
        self._news = 0

    def say(self, row):
        """Does what a row tells; the answer."""
        word, values = _words_of(row)
        if word in _CHANGES:
            return self._change(word, values)
        if word == "program":
            return self._add_program(*values)
        if word == "ask":
            return self._ask(tuple(values))
        if word == "news":
            return str(self._news)
        if word == "cut":
            return self._cut(int(values[0]))
        if word == "show":
            return " ".join(self._session.project.names) or "none"
        project, record, key = self._session.project, self._session.record, tuple(values)
        if word == "need":
            return str(len(need(project, record, key)))
        return _keys_text(causes(project, record, key)) or "none"

    def _change(self, word, values):
        """Does a deed of the session; whether it changed the project, in a word."""
        before = self._session.project
        if word == "source":
            self._session.put(values[0], Source({}))
        elif word == "text":
            self._session.write(*values)
        elif word == "erase":
            self._session.erase(*values)
        elif word == "drop":
            self._session.without(*values)
        elif word == "undo":
            self._session.undo()
        else:
            name, recipe, *arguments = values
            self._session.put(name, Made(_recipe_in(recipe), [argument[1:-1] for argument in arguments]))
        return "nothing" if self._session.project == before else "done"

    def _add_program(self, name, text):
        record = self._session.record
        if name in self._workshop or any([recipe == name for recipe, _, _, _ in record.table()]):
            raise Taken(name)
        program = Program.read(text.replace(" ; ", "\n"))
        self._workshop = self._workshop.changed(name, ProgramRecipe(program))
        self._session = self._session.renewed(self._workshop, record)
        return "kept"

    def _ask(self, key):
        pairs = self._session.steps_for(key)
        for place, step in pairs:
            self._journal.add(place, step)
        self._news = len(pairs)
        try:
            answer = self._session.ask(key)
        except Stuck as stuck:
            return f"ring {_keys_text(stuck.ring)}"
        return "none" if answer is None else f"text {answer}"

    def _cut(self, many):
        self._journal = Journal(self._journal.text[:many])
        self._session = self._session.renewed(self._workshop, self._journal.record)
        state = "torn" if self._journal.is_torn else "whole"
        return f"{state} {len(self._journal)}"


def _words_of(row):
    """The first word of a row, and the list of the others; raises NoRow for any value that is no row."""
    if not isinstance(row, str) or "\n" in row:
        raise NoRow()
    word, _, _ = row.partition(" ")
    if word not in _ROWS:
        raise NoRow()
    kinds = list(_ROWS[word])
    # The last words may have spaces in them.
    _, *values = row.split(" ", len(kinds)) if "rest" in kinds or "text" in kinds else row.split(" ")
    if word == "made":
        kinds.extend(["argument"] * max(0, min(len(values) - len(kinds), MOST_ARGUMENTS)))
    if len(values) != len(kinds) or not all([_is_of_kind(kind, value) for kind, value in zip(kinds, values)]):
        raise NoRow()
    return word, values


def _is_of_kind(kind, value):
    if kind == "name":
        return is_name(value)
    if kind == "text":
        return is_text(value)
    if kind == "recipe":
        return is_name(value) or is_key(_recipe_in(value))
    if kind == "argument":
        return len(value) > 1 and value[0] == '"' and value.find('"', 1) == len(value) - 1 and is_text(value[1:-1])
    if kind == "number":
        return len(value) <= _MOST_DIGITS and writes_number(value)
    return True


def _recipe_in(word):
    """The name of a recipe, or the recipe key, for which a word stands."""
    name, dot, output = word.partition(".")
    return (name, output) if dot else name


def _keys_text(keys):
    return " ".join([f"{target}.{output}" for target, output in keys])
