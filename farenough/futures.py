"""Futures: what a record tells ahead about a key."""

from farenough.errors import NotOpen
from farenough.extending import extended_to
from farenough.steps import is_integer
from farenough.walkers import Walker
from farenough.walks import walk


def future(project, record, key):
    """What a record tells about a key of a project."""
    state, told = walk(project, record, key)
    if state == "settled":
        return Sure(told)
    if state == "stuck":
        return Never(Walker(project, record.table(), [key]).way_from(key))
    return Open(told)


class Future:
    """The base of all futures. It tells nothing by itself."""

    def holds(self, project, record, key):
        """Whether this is what the record tells about the key."""
        return False


class Sure(Future):
    """The key is settled as this answer."""

    def __init__(self, outcome):
        self.outcome = outcome

    def __eq__(self, other):
        return isinstance(other, Sure) and self.outcome == other.outcome

    def holds(self, project, record, key):
        """Whether the record settles the key as this answer."""
        return walk(project, record, key) == ("settled", self.outcome)


class Never(Future):
    """The key is stuck: on this way each key waits for the next one, and the last one stands on it already."""

    def __init__(self, way):
        self.way = way

    def __eq__(self, other):
        return isinstance(other, Never) and self.way == other.way

    def holds(self, project, record, key):
        """Whether each key on the way waits for the next one along the record."""
        if not isinstance(self.way, tuple) or len(self.way) < 2 or self.way[0] != key:
            return False
        walker = Walker(project, record.table(), [key])
        for at, following in enumerate(self.way[1:]):
            # The item ahead is a key: it is the one that is asked for, or one that another key waits for.
            item = self.way[at]
            if walker.is_settled(item) or following not in walker.awaited_by(item[0]):
                return False
        *rest, last = self.way
        return last in rest and len(set(rest)) == len(rest)


class Open(Future):
    """The key is open: its targets are open at these places."""

    def __init__(self, places):
        self.places = places

    def __eq__(self, other):
        return isinstance(other, Open) and self.places == other.places

    def holds(self, project, record, key):
        """Whether these are the places at which the key is open along the record."""
        if walk(project, record, key) != ("open", self.places):
            return False
        # Python takes a boolean for an integer, so a count may still be another value.
        return all([is_integer(count) for _, _, _, count in self.places])


def come_to(project, record, key, answer):
    """A record that contains this one, and along which the key is settled as this answer."""
    state, _ = walk(project, record, key)
    if state != "open":
        raise NotOpen(key)
    return extended_to(project, record, key, answer)
