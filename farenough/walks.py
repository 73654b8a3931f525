"""Walks along a record: what it tells about a key of a project."""

from farenough.records import Record
from farenough.walkers import Walker


def walk(project, record, key):
    """The state of a key along a record: settled, stuck or open, and what goes with it."""
    walker = Walker(project, record.table(), [key])
    if walker.is_settled(key):
        return "settled", walker.answer_of(key)
    if walker.is_stuck(key):
        return "stuck", walker.ring_of(key)
    return "open", tuple(walker.open_places([key]))


def open_places(project, record, keys):
    """The tuple, in order, of the places at which targets are open that these keys demand."""
    return tuple(Walker(project, record.table(), keys).open_places(keys))


def demand(project, record, key):
    """The tuple, ascending, of the keys that a key demands along a record."""
    return tuple(sorted(Walker(project, record.table(), [key]).demanded_by([key])))


def need(project, record, key):
    """The record of the steps that a key needs along a record."""
    return Record(Walker(project, record.table(), [key]).needed_by([key]))
