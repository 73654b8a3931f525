"""Causes: the keys that are given, and not made, on which an answer depends."""

from farenough.errors import NotCause, NotFresh
from farenough.extending import extended_to, texts_in
from farenough.projects import Made
from farenough.records import Record
from farenough.walkers import settling_walker


def causes(project, record, key):
    """The tuple, ascending, of the keys that a settled key demands and whose targets are not made."""
    return _causes_of(settling_walker(project, record, key), key)


def way_to(project, record, key, cause):
    """The shortest way, and of several the least, from a settled key to a cause: each item demands the next one."""
    walker = _walker_with_cause(project, record, key, cause)
    ways = {key: (key,)}
    level = [key]
    while cause not in ways:
        # The ways of a level are found in ascending order, so the first way to a key is the least one.
        following = []
        for item in level:
            for other in sorted(walker.keys_for(item)):
                if other not in ways:
                    ways[other] = (*ways[item], other)
                    following.append(other)
        level = following
    return ways[cause]


def swayed(project, record, key, cause, text):
    """A record that has the need of a key, and settles it as another answer where the cause has this text instead."""
    walker = _walker_with_cause(project, record, key, cause)
    needed = walker.needed_by([key])
    if text in texts_in(project, needed) or text in _arguments_in(project, needed):
        raise NotFresh(text)
    name, output = cause
    other_project = project.write(name, output, text)
    if key == cause:
        return Record(needed)
    # What reads the cause comes to a place that is not in the need, so the key is open there.
    answer = "" if walker.answer_of(key) is None else None
    return extended_to(other_project, Record(needed), key, answer)


def _causes_of(walker, key):
    return tuple(sorted([other for other in walker.demanded_by([key]) if not walker.is_made(other[0])]))


def _walker_with_cause(project, record, key, cause):
    """A walker that was asked for the key; raises NotSettled, then NotCause."""
    walker = settling_walker(project, record, key)
    if cause not in _causes_of(walker, key):
        raise NotCause(cause)
    return walker


def _arguments_in(project, known):
    """The list of the arguments at known places and of the targets of a project."""
    targets = [project[name] for name in project.names]
    rows = [arguments for _, arguments, _, _ in known]
    rows.extend([target.arguments for target in targets if isinstance(target, Made)])
    return [argument for row in rows for argument in row]
