"""Histories: versions of a project, and where an answer changes among them."""

from farenough.errors import Conflict, NoVersion
from farenough.merging import Merger
from farenough.steps import is_integer


class History:
    """A tree of versions that can be merged. Version 0 is the project it begins with."""

    def __init__(self, project):
        self._projects = [project]
        self._parents = [()]
        # For each version a number in which bit k is set if it descends from version k.
        self._lines = [1]

    def commit(self, parent, project):
        """Adds a version with this parent; its number."""
        self._check(parent)
        return self._add(project, (parent,))

    def __getitem__(self, at):
        if at not in self:
            raise NoVersion(at)
        return self._projects[at]

    def __iter__(self):
        raise TypeError("a history is not iterated over")

    def __contains__(self, x):
        return is_integer(x) and 0 <= x < len(self._projects)

    def __len__(self):
        return len(self._projects)

    def parents(self, number):
        """The tuple of the parents of a version."""
        self._check(number)
        return self._parents[number]

    def base(self, one, other):
        """The greatest number of a version from which both descend."""
        self._check(one)
        self._check(other)
        return (self._lines[one] & self._lines[other]).bit_length() - 1

    def merge(self, one, other):
        """Adds a version with both as parents, put together from both; its number."""
        base = self.base(one, other)
        merger = Merger(self._projects[base], self._projects[one], self._projects[other])
        if merger.failed():
            raise Conflict(merger.failed())
        return self._add(merger.result(), (one, other))

    def trunk(self, number):
        """The tuple of versions from 0 to this one, in which each is the first parent of the next."""
        self._check(number)
        trunk = [number]
        while self._parents[trunk[-1]]:
            trunk.append(self._parents[trunk[-1]][0])
        return tuple(trunk[::-1])

    def _check(self, number):
        if number not in self:
            raise NoVersion(number)

    def _add(self, project, parents):
        number = len(self._projects)
        line = 1 << number
        for parent in parents:
            line = line | self._lines[parent]
        self._projects.append(project)
        self._parents.append(parents)
        self._lines.append(line)
        return number


def turning(engine, projects, key):
    """The index of a project at which the answer of a key changes, or None if the first and the last agree."""
    first = engine.ask(projects[0], key)
    if engine.ask(projects[-1], key) == first:
        return None
    walkers = [engine.walker_for(project, key) for project in projects]
    # By the indexes of the projects that are known, whether they have the first answer.
    known = {}
    while True:
        for at, walker in enumerate(walkers):
            if at not in known:
                walker.go_on()
                if walker.is_settled(key):
                    known[at] = walker.answer_of(key) == first
        lower, upper = _closest_pair(known)
        if upper == lower + 1:
            return upper
        engine.ask(projects[(lower + upper) // 2], key)


def _closest_pair(known):
    """The closest known indexes, of these the first, of which the lower has the first answer and the upper has not."""
    indexes = sorted(known)
    pairs = [(lower, upper) for lower, upper in zip(indexes, indexes[1:]) if known[lower] and not known[upper]]
    return min(pairs, key=_length)


def _length(pair):
    lower, upper = pair
    return upper - lower
