"""Keeping: which steps of a record are worth their room, and what it costs to leave some out."""

from farenough.errors import NotPart
from farenough.forests import Forest
from farenough.records import Record
from farenough.steps import ordered
from farenough.walkers import Walker, settling_walker


def serves(record, asks):
    """Whether the record settles the keys of all asks."""
    return all([Walker(project, record.table(), [key]).is_settled(key) for project, key in asks])


def least(record, asks):
    """The smallest record contained in this one that settles the keys of all asks."""
    return Record(_needed_by(record, asks))


def idle(record, asks):
    """The list, in order, of the places of the record that no ask needs."""
    needed = _needed_by(record, asks)
    return ordered([place for place in record.table() if place not in needed])


def price(kept, record, asks):
    """The numbers of new steps and of replays of an engine that has only the kept part and is asked all asks."""
    needed = _needed_by(record, asks)
    _check_part(kept.table(), record.table())
    return _price_of(kept.table(), needed)


def keep(record, asks, many):
    """A record of at most so many places, contained in this one, for which the sum of the price is the smallest."""
    needed = _needed_by(record, asks)
    kept = {}
    for stretch in _best_stretches(_stretches_of(Forest(needed)), min(many, len(needed))):
        for place in stretch.places:
            kept[place] = needed[place]
    return Record(kept)


def _needed_by(record, asks):
    """A new dict of the steps, by their places, that the asks need; raises NotSettled."""
    needed = {}
    for project, key in asks:
        needed.update(settling_walker(project, record, key).needed_by([key]))
    return needed


def _check_part(part, table):
    wrong = [place for place in part if table.get(place) != part[place]]
    if wrong:
        raise NotPart(ordered(wrong)[0])


def _price_of(kept, needed):
    forest = Forest(needed)
    news, replays = 0, 0
    # The places from which a run goes on to the next one: each goes one way only.
    left = {}
    for place in needed:
        if place not in kept:
            news += 1
            ahead = forest.ahead.get(place)
            if ahead in kept or ahead in left:
                replays += forest.depths[place]
            if ahead is not None:
                left[ahead] = True
    return news, replays


class Stretch:
    """Places of a forest one behind the other, up to one behind which there is none, or several."""

    def __init__(self, places, above):
        self.places = places
        # The number of the stretch ahead of it, or -1.
        self.above = above
        # How many stretches there are behind it, itself included.
        self.many = 1
        # What is saved if it is kept, and all ahead of it.
        self.saving = 0


def _stretches_of(forest):
    """The list of all stretches, each right ahead of those that are behind it."""
    stretches = []
    waiting = [(place, -1) for place in ordered(forest.roots)]
    while waiting:
        place, above = waiting.pop()
        places = [place]
        while len(forest.behind[place]) == 1:
            place = forest.behind[place][0]
            places.append(place)
        stretch = Stretch(places, above)
        if not forest.behind[place]:
            # Each way that is kept to its end saves all of its steps: taken anew, or gone over again.
            stretch.saving = forest.depths[place] + 1
        for following in ordered(forest.behind[place]):
            waiting.append((following, len(stretches)))
        stretches.append(stretch)
    for at in reversed(range(len(stretches))):
        above = stretches[at].above
        if above >= 0:
            stretches[above].many += stretches[at].many
    return stretches


def _best_stretches(stretches, many):
    """Those that save the most with so many places. (None is kept without the one ahead of it.)"""
    # For each stretch, what can be saved with it and those that come later, by the number of places that are left.
    bests = [[0] * (many + 1) for _ in range(len(stretches) + 1)]
    for at in reversed(range(len(stretches))):
        stretch = stretches[at]
        size = len(stretch.places)
        without = bests[at + stretch.many]
        taken = [stretch.saving + best for best in bests[at + 1]]
        bests[at] = without[:size] + [max(without[room], taken[room - size]) for room in range(size, many + 1)]
    chosen, at, room = [], 0, many
    while at < len(stretches):
        stretch = stretches[at]
        if bests[at][room] > bests[at + stretch.many][room]:
            chosen.append(stretch)
            room -= len(stretch.places)
            at += 1
        else:
            at += stretch.many
    return chosen
