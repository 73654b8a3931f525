"""Changes: what leads from one project to another."""

from farenough.errors import Mismatch


class Change:
    """Parts (name, before, after): a target before and after, or None where there is none; names ascending."""

    def __init__(self, parts=()):
        self._parts = tuple(parts)

    def __call__(self, project):
        """The project to which this leads from the given one."""
        for name, before, _ in self._parts:
            if _target_of(project, name) != before:
                raise Mismatch(name)
        for name, _, after in self._parts:
            project = project.without(name) if after is None else project.put(name, after)
        return project

    def __invert__(self):
        return Change([(name, after, before) for name, before, after in self._parts])

    def __add__(self, other):
        firsts = _by_name(self._parts)
        seconds = _by_name(other._parts)
        parts = []
        for name in sorted(set(firsts) | set(seconds)):
            before, after = firsts.get(name) or seconds[name]
            if name in firsts and name in seconds:
                going_on, after = seconds[name]
                if going_on != firsts[name][1]:
                    raise Mismatch(name)
            if before != after:
                parts.append((name, before, after))
        return Change(parts)

    def __len__(self):
        return len(self._parts)

    def __contains__(self, x):
        return x in self.names

    def __eq__(self, other):
        return isinstance(other, Change) and self._parts == other._parts

    @property
    def names(self):
        """The tuple of the names of the targets that are changed."""
        return tuple([name for name, _, _ in self._parts])


def change_between(project, other):
    """The change that leads from the one project to the other."""
    names = sorted(set(project.names) | set(other.names))
    pairs = [(name, _target_of(project, name), _target_of(other, name)) for name in names]
    return Change([(name, before, after) for name, before, after in pairs if before != after])


def _by_name(parts):
    """A new dict of the targets before and after, by their names."""
    return {name: (before, after) for name, before, after in parts}


def _target_of(project, name):
    return project[name] if name in project else None
