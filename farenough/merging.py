"""Merging: one project put together from two that go back to a common one."""

from farenough.projects import Project, Source


class Merger:
    """Puts two versions of a project together, target by target; notes where that cannot be done."""

    def __init__(self, base, one, other):
        self._projects = (base, one, other)
        self._targets = {}
        self._conflicts = []
        for name in sorted(set(base.names) | set(one.names) | set(other.names)):
            self._merge_target(name)

    def result(self):
        """The project that was put together."""
        return Project(self._targets)

    def failed(self):
        """The tuple, ascending, of all names that cannot be put together: `target` or `target.output`."""
        return tuple(sorted(self._conflicts))

    def _merge_target(self, name):
        base, one, other = [project[name] if name in project else None for project in self._projects]
        if _may_choose(base, one, other):
            target = _chosen(base, one, other)
        elif isinstance(one, Source) and isinstance(other, Source) and (base is None or isinstance(base, Source)):
            outputs = {} if base is None else base.outputs
            target = self._merged_source(name, outputs, one.outputs, other.outputs)
        else:
            self._conflicts.append(name)
            target = None
        if target is not None:
            self._targets[name] = target

    def _merged_source(self, name, base, one, other):
        """A source put together output by output, of dicts of texts."""
        outputs = {}
        for output in sorted(set(base) | set(one) | set(other)):
            texts = (base.get(output), one.get(output), other.get(output))
            if not _may_choose(*texts):
                self._conflicts.append(f"{name}.{output}")
            elif _chosen(*texts) is not None:
                outputs[output] = _chosen(*texts)
        return Source(outputs)


def _may_choose(base, one, other):
    """Whether one of two values, or None where there is none, can be chosen, as it is the only new one."""
    return one == base or other == base or one == other


def _chosen(base, one, other):
    return other if one == base else one
