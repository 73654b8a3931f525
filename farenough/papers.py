"""Papers: they show that a step could not be left out."""

from farenough.errors import NotNeeded
from farenough.extending import extended_to
from farenough.walkers import Walker, settling_walker


def paper(project, record, key, place):
    """A paper which shows that the step at this place cannot be left out."""
    walker = settling_walker(project, record, key)
    if place not in walker.needed_by([key]):
        raise NotNeeded(place)
    # Without the step the key is open, so it may be settled as anything.
    answer = "" if walker.answer_of(key) is None else None
    return Paper(place, extended_to(project, record.without(place), key, answer))


class Paper:
    """A place, and a record that has all but the steps from this place on, and leads to another answer."""

    def __init__(self, place, counter):
        self._place = place
        self._counter = counter

    def __eq__(self, other):
        return isinstance(other, Paper) and self._place == other._place and self._counter == other._counter

    @property
    def place(self):
        """The place of the step that cannot be left out."""
        return self._place

    @property
    def counter(self):
        """The counter-record."""
        return self._counter

    def holds(self, project, record, key):
        """Whether the paper shows this of a record, a project and a key."""
        walker = Walker(project, record.table(), [key])
        if not walker.is_settled(key) or self._place not in record:
            return False
        if not record.without(self._place).is_within(self._counter):
            return False
        counter = Walker(project, self._counter.table(), [key])
        return counter.is_settled(key) and counter.answer_of(key) != walker.answer_of(key)
