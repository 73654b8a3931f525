"""Records: the steps that were seen, each at its place."""

from farenough.errors import Clash, Gap, NoPlace, Rewritten
from farenough.steps import in_order, is_behind, ordered


class Record:
    """A set of places, each with one step, and with each place the steps that lead to it."""

    def __init__(self, steps=()):
        # A dict comes from this package, which knows that it has the steps of a record; it is not changed later.
        self._steps = steps if isinstance(steps, dict) else _table_of(steps)

    def __contains__(self, x):
        return x in self._steps

    def __len__(self):
        return len(self._steps)

    def __bool__(self):
        return bool(self._steps)

    def __eq__(self, other):
        return isinstance(other, Record) and self._steps == other._steps

    def __getitem__(self, at):
        if at not in self._steps:
            raise NoPlace(at)
        return self._steps[at]

    def __iter__(self):
        raise TypeError("a record is not iterated over")

    def table(self):
        """The dict of the steps by their places. It is only read."""
        return self._steps

    def is_within(self, other):
        """Whether the other record has all places of this one, with the same steps."""
        if len(self._steps) > len(other._steps):
            return False
        return all([other._steps.get(place) == self._steps[place] for place in self._steps])

    def __or__(self, other):
        less, more = self._steps, other._steps
        if len(less) > len(more):
            less, more = more, less
        differing = [place for place in less if place in more and less[place] != more[place]]
        if differing:
            raise Clash(ordered(differing)[0])
        return Record({**more, **less})

    def __and__(self, other):
        reads = reads_in(self._steps)
        common = {}
        for place in ordered(list(self._steps)):
            if place in other._steps and other._steps[place] == self._steps[place]:
                if is_first(place) or place_ahead(place, reads) in common:
                    common[place] = self._steps[place]
        return Record(common)

    def __sub__(self, other):
        # Where the other record has a place, it has the first place of these arguments, too, and all is behind that.
        return Record({place: self._steps[place] for place in self._steps if _first_of(place) not in other._steps})

    def without(self, place):
        """The record without this place and all places behind it."""
        if place not in self._steps:
            return self
        return Record({other: self._steps[other] for other in self._steps
                       if other != place and not is_behind(other, place)})

    def steps(self):
        """Yields all pairs of a place and its step, places in order."""
        for place in ordered(list(self._steps)):
            yield place, self._steps[place]

    def ends(self):
        """A new list of the places behind which the record has none, in order."""
        reads = reads_in(self._steps)
        passed = {place_ahead(place, reads): True for place in self._steps if not is_first(place)}
        return ordered([place for place in self._steps if place not in passed])


def _table_of(pairs):
    """The dict of these pairs, if they make a record."""
    table = {}
    clashing = []
    for place, step in pairs:
        if place not in table:
            table[place] = step
        elif table[place] != step:
            clashing.append(place)
    if clashing:
        raise Clash(in_order(clashing)[0])
    _check_ways(table)
    return table


def _check_ways(table):
    """Raises Gap or Rewritten for the first place in order that cannot stand where it stands."""
    reads = reads_in(table)
    # The outputs that are written on the way to a place, and there.
    written = {}
    faults = []
    for place in in_growing_order(table):
        ahead = None if is_first(place) else place_ahead(place, reads)
        written[place] = written.get(ahead, ())
        step = table[place]
        if not is_first(place) and not leads_to(table.get(ahead), place):
            faults.append(place)
        elif step[0] == "write":
            if step[1] in written[place]:
                faults.append(place)
            written[place] = (*written[place], step[1])
    if faults:
        first = ordered(faults)[0]
        if not is_first(first) and not leads_to(table.get(place_ahead(first, reads)), first):
            raise Gap(first)
        raise Rewritten(first)


def in_growing_order(table):
    """A new list of the places of a table, in which each stands behind those that are ahead of it."""
    # The places ahead of one have fewer answers, or as many and a smaller count.
    return sorted(table, key=_length)


def _length(place):
    _, _, answers, count = place
    return len(answers), count


def reads_in(table):
    """A new dict: by the first part of each place, which tells its answers, the place of the read behind them."""
    return {place[:3]: place for place in table if table[place][0] == "read"}


def is_first(place):
    """Whether no place is ahead of this one."""
    _, _, answers, count = place
    return not answers and count == 0


def _first_of(place):
    recipe, arguments, _, _ = place
    return recipe, arguments, (), 0


def place_ahead(place, reads):
    """The place right ahead of one that is not the first; None if it would be a read that is not there."""
    recipe, arguments, answers, count = place
    if count > 0:
        return recipe, arguments, answers, count - 1
    return reads.get((recipe, arguments, answers[:-1]))


def leads_to(step, place):
    """Whether a step right ahead of the place, or None, leads to it."""
    _, _, answers, count = place
    if step is None:
        return False
    if count > 0:
        return step[0] == "write"
    return step[0] == "read" and len(step[1]) == len(answers[-1])
