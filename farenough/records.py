"""Records: the steps that were seen, each at its place."""

from farenough.errors import Clash, Gap, NoPlace, Rewritten
from farenough.steps import in_order, is_behind


class Record:
    """A set of places, each with one step, and with each place the steps that lead to it."""

    def __init__(self, steps=()):
        # A dict comes from this package, which knows that it has the steps of a record; it is not changed later.
        self._steps = steps if isinstance(steps, dict) else _table_of(steps)

    def __contains__(self, x):
        return x in self._steps

    def __len__(self):
        return len(self._steps)

    def __bool__(self):
        return bool(self._steps)

    def __eq__(self, other):
        return isinstance(other, Record) and self._steps == other._steps

    def __getitem__(self, at):
        if at not in self._steps:
            raise NoPlace(at)
        return self._steps[at]

    def __iter__(self):
        raise TypeError("a record is not iterated over")

    def is_within(self, other):
        """Whether the other record has all places of this one, with the same steps."""
        return all([place in other._steps and other._steps[place] == self._steps[place] for place in self._steps])

    def __or__(self, other):
        differing = [place for place in self._steps
                     if place in other._steps and other._steps[place] != self._steps[place]]
        if differing:
            raise Clash(in_order(differing)[0])
        joined = {}
        for steps in (self._steps, other._steps):
            for place in steps:
                joined[place] = steps[place]
        return Record(joined)

    def __and__(self, other):
        reads = _reads_in(self._steps)
        common = {}
        for place in in_order(list(self._steps)):
            if place in other._steps and other._steps[place] == self._steps[place]:
                if _is_first(place) or _place_ahead(place, reads) in common:
                    common[place] = self._steps[place]
        return Record(common)

    def __sub__(self, other):
        # Where the other record has a place, it has the first place of these arguments, too, and all is behind that.
        return Record({place: self._steps[place] for place in self._steps if _first_of(place) not in other._steps})

    def without(self, place):
        """The record without this place and all places behind it."""
        if place not in self._steps:
            return self
        return Record({other: self._steps[other] for other in self._steps
                       if other != place and not is_behind(other, place)})

    def steps(self):
        """Yields all pairs of a place and its step, places in order."""
        for place in in_order(list(self._steps)):
            yield place, self._steps[place]

    def ends(self):
        """A new list of the places behind which the record has none, in order."""
        reads = _reads_in(self._steps)
        passed = {_place_ahead(place, reads): True for place in self._steps if not _is_first(place)}
        return in_order([place for place in self._steps if place not in passed])


def _table_of(pairs):
    """The dict of these pairs, if they make a record."""
    table = {}
    clashing = []
    for place, step in pairs:
        if place not in table:
            table[place] = step
        elif table[place] != step:
            clashing.append(place)
    if clashing:
        raise Clash(in_order(clashing)[0])
    _check_ways(table)
    return table


def _check_ways(table):
    """Raises Gap or Rewritten for the first place in order that cannot stand where it stands."""
    reads = _reads_in(table)
    # The outputs that are written on the way to a place, and there.
    written = {}
    for place in in_order(list(table)):
        if not _is_led_to(place, table, reads):
            raise Gap(place)
        written[place] = () if _is_first(place) else written[_place_ahead(place, reads)]
        step = table[place]
        if step[0] == "write":
            if step[1] in written[place]:
                raise Rewritten(place)
            written[place] = (*written[place], step[1])


def _reads_in(table):
    """The place of the read behind each row of answers (the first part of its place)."""
    return {place[:3]: place for place in table if table[place][0] == "read"}


def _is_first(place):
    _, _, answers, count = place
    return not answers and count == 0


def _first_of(place):
    recipe, arguments, _, _ = place
    return recipe, arguments, (), 0


def _place_ahead(place, reads):
    """The place right ahead of one that is not the first; None if it would be a read that is not there."""
    recipe, arguments, answers, count = place
    if count > 0:
        return recipe, arguments, answers, count - 1
    return reads.get((recipe, arguments, answers[:-1]))


def _is_led_to(place, table, reads):
    """Whether the step right ahead leads to the place."""
    if _is_first(place):
        return True
    ahead = _place_ahead(place, reads)
    if ahead not in table:
        return False
    _, _, answers, count = place
    if count > 0:
        return table[ahead][0] == "write"
    return len(table[ahead][1]) == len(answers[-1])
