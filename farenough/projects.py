"""Targets, and projects that give them to names."""

from farenough.errors import NotSource, NoTarget


class Target:
    """The base of sources and made targets."""


class Source(Target):
    """A target whose outputs are given texts."""

    def __init__(self, outputs):
        self._outputs = dict(outputs)

    def __eq__(self, other):
        return isinstance(other, Source) and self._outputs == other._outputs

    @property
    def outputs(self):
        """A new dict of the texts by the names of the outputs."""
        return dict(self._outputs)


class Made(Target):
    """A target whose outputs are written by a recipe."""

    def __init__(self, recipe, arguments=()):
        self._recipe = recipe
        self._arguments = tuple(arguments)

    def __eq__(self, other):
        return isinstance(other, Made) and self._recipe == other._recipe and self._arguments == other._arguments

    @property
    def recipe(self):
        """The name of the recipe, or the key from which this name is read."""
        return self._recipe

    @property
    def arguments(self):
        """The tuple of the arguments of the recipe."""
        return self._arguments


class Project:
    """Gives targets to names. A project does not change: its methods return new ones."""

    def __init__(self, targets):
        self._targets = dict(targets)

    def __getitem__(self, at):
        if at not in self._targets:
            raise NoTarget(at)
        return self._targets[at]

    def __iter__(self):
        raise TypeError("a project is not iterated over")

    def __contains__(self, x):
        return x in self._targets

    def __len__(self):
        return len(self._targets)

    def __eq__(self, other):
        return isinstance(other, Project) and self._targets == other._targets

    @property
    def names(self):
        """The tuple of the names of the targets, ascending."""
        return tuple(sorted(self._targets))

    def put(self, name, target):
        """A project with this target under this name, also in the place of another one."""
        return Project({**self._targets, name: target})

    def without(self, name):
        """A project without the target of this name."""
        if name not in self._targets:
            raise NoTarget(name)
        targets = dict(self._targets)
        del targets[name]
        return Project(targets)

    def write(self, name, output, text):
        """A project in which this output of a source has this text."""
        outputs = self._outputs_of(name) if name in self._targets else {}
        return self.put(name, Source({**outputs, output: text}))

    def erase(self, name, output):
        """A project in which the source does not have this output."""
        outputs = self._outputs_of(name)
        return self.put(name, Source({other: outputs[other] for other in outputs if other != output}))

    def _outputs_of(self, name):
        target = self[name]
        if not isinstance(target, Source):
            raise NotSource(name)
        return target.outputs
