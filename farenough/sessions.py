"""Sessions: a project that changes, deed by deed, and an engine that is asked about it."""

from farenough.engine import Engine
from farenough.errors import BuildError, Failed
from farenough.projects import Made, Source
from farenough.steps import is_key, is_name, is_text

# For each deed of an attempt what stands behind its name.
_DEEDS = {
    "put": ("name", "target"), "without": ("name",), "write": ("name", "name", "text"), "erase": ("name", "name"),
    "ask": ("key",), "undo": (), "attempt": ("deeds",),
}


class Session:
    """A current project and an engine."""

    def __init__(self, workshop, project, *, record=None):
        self._engine = Engine(workshop, record=record)
        self._project = project
        # The deeds that stand, each with the project ahead of it.
        self._deeds = []
        # How many deeds stood where the innermost attempt began that is under way.
        self._floor = 0

    @property
    def project(self):
        """The current project."""
        return self._project

    @property
    def record(self):
        """The record of all steps that were seen."""
        return self._engine.record

    def put(self, name, target):
        """Puts a target in, also in the place of another one."""
        self._go_to(self._project.put(name, target), ("put", name, target))

    def without(self, name):
        """Leaves a target out."""
        self._go_to(self._project.without(name), ("without", name))

    def write(self, name, output, text):
        """Gives an output of a source another text."""
        self._go_to(self._project.write(name, output, text), ("write", name, output, text))

    def erase(self, name, output):
        """Leaves an output of a source out."""
        self._go_to(self._project.erase(name, output), ("erase", name, output))

    def ask(self, key):
        """The answer of a key in the current project."""
        return self._engine.ask(self._project, key)

    def undo(self):
        """Takes back the last deed that changed the project; whether there was one."""
        if len(self._deeds) == self._floor:
            return False
        _, self._project = self._deeds.pop()
        return True

    def log(self):
        """A new list of the deeds that stand, without asks."""
        return [deed for deed, _ in self._deeds]

    def attempt(self, deeds, *, keep=True):
        """Does deeds one after the other; the list of what they return. If one fails, none of them stands."""
        project, many, floor = self._project, len(self._deeds), self._floor
        self._floor = many
        try:
            results = self._do_all(deeds)
        except Failed:
            self._go_back(project, many, floor)
            raise
        if keep:
            self._floor = floor
        else:
            self._go_back(project, many, floor)
        return results

    def steps_for(self, key):
        """Takes all steps that a key needs; the tuple of the new ones, each with its place."""
        return self._engine.pursue(self._project, [key])

    def renewed(self, workshop, record):
        """A session with the same project and deeds, with another workshop and another record."""
        session = Session(workshop, self._project, record=record)
        session._deeds = list(self._deeds)
        return session

    def _go_to(self, project, deed):
        if project != self._project:
            self._deeds.append((deed, self._project))
            self._project = project

    def _go_back(self, project, many, floor):
        """Goes back to a project, the number of deeds that stood, and the floor."""
        self._project = project
        self._floor = floor
        del self._deeds[many:]

    def _do_all(self, deeds):
        results = []
        for at, item in enumerate(deeds):
            if not _is_deed(item):
                raise Failed((at,))
            try:
                results.append(self._do(*item))
            except Failed as inner:
                raise Failed((at, *inner.path)) from None
            except BuildError:
                raise Failed((at,)) from None
        return results

    def _do(self, word, *values):
        """Does a deed; what it returns."""
        if word == "put":
            return self.put(*values)
        if word == "without":
            return self.without(*values)
        if word == "write":
            return self.write(*values)
        if word == "erase":
            return self.erase(*values)
        if word == "ask":
            return self.ask(*values)
        return self.undo() if word == "undo" else self.attempt(*values)


def _is_deed(item):
    """Whether any value is a deed."""
    if not isinstance(item, tuple) or not item or not isinstance(item[0], str):
        return False
    word, *values = item
    if word not in _DEEDS or len(values) != len(_DEEDS[word]):
        return False
    return all([_is_of_kind(kind, value) for kind, value in zip(_DEEDS[word], values)])


def _is_of_kind(kind, value):
    if kind == "name":
        return is_name(value)
    if kind == "text":
        return is_text(value)
    if kind == "key":
        return is_key(value)
    return isinstance(value, (Source, Made)) if kind == "target" else isinstance(value, (list, tuple))
