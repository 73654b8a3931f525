"""Workers: they take the new steps for several keys side by side, each in its time."""

from farenough.crews import Crew
from farenough.errors import NotAsked
from farenough.records import Record
from farenough.steps import ordered
from farenough.walkers import Walker


def shift(project, workshop, record, keys, *, workers=1, times=None, guess=False):
    """Lets workers take the new steps for several keys; a Shift."""
    floor = Floor(project, workshop, record, keys)
    floor.work(workers, {} if times is None else times, guess)
    return Shift(floor)


def far_end(project, workshop, record, keys, *, times=None):
    """The end of a shift in which no worker is ever missing."""
    # Each target is open at one place at most.
    return shift(project, workshop, record, keys, workers=len(project) + 1, times=times).end


class Floor:
    """Where workers are at work: the steps that are known, and those that are under way."""

    def __init__(self, project, workshop, record, keys):
        self.asked = tuple(keys)
        self.known = {**record.table()}
        self.walker = Walker(project, self.known, self.asked)
        # What began, and will end, as (begin, end, worker, place), in the order in which it began.
        self.started = []
        self._crew = Crew(workshop)
        # By the places that are worked on, when each step ends, its worker, and the step.
        self._busy = {}
        # What places of each recipe with its arguments read.
        self._reads = {}
        self._guesses = Walker(project, self.known, ())
        for place, step in self.known.items():
            self._note(place, step)

    def work(self, workers, times, guess):
        """Lets so many workers work until none has anything to do."""
        now = 0
        self._begin_all(now, workers, times, guess)
        while self._busy:
            now = min([end for end, _, _ in self._busy.values()])
            self._end_all(now)
            self._begin_all(now, workers, times, guess)

    def _note(self, place, step):
        if step[0] == "read":
            keys = self._reads.setdefault(place[:2], {})
            for key in step[1]:
                keys[key] = True

    def _end_all(self, now):
        """Adds the steps that end now."""
        for place, (end, _, step) in list(self._busy.items()):
            if end == now:
                del self._busy[place]
                self.known[place] = step
                self._note(place, step)
        self.walker.go_on()

    def _begin_all(self, now, workers, times, guess):
        """Lets the free workers begin with the due places, then with guessed ones."""
        places = self.walker.open_places(self.asked)
        self._begin_with(places, now, workers, times)
        if guess and places and len(self._busy) < workers:
            # All due places are worked on now.
            self._begin_with(self._guessed_places(), now, workers, times)

    def _begin_with(self, places, now, workers, times):
        """Lets each free worker begin with the first of these places that is left."""
        taken = [worker for _, worker, _ in self._busy.values()]
        free = [worker for worker in range(workers) if worker not in taken]
        left = [place for place in places if place not in self._busy]
        for worker, place in zip(free, left):
            end = now + times.get(place[0], 1)
            self._busy[place] = (end, worker, self._crew.take(place))
            self.started.append((now, end, worker, place))

    def _guessed_places(self):
        """The open places of all keys that demanded targets of keys that are not settled may read."""
        unsettled = [key for key in self.asked if not self.walker.is_settled(key)]
        guessed = {}
        for name, _ in self.walker.demanded_by(unsettled):
            first = self.walker.place_of(name)
            if first is not None:
                for key in self._reads.get(first[:2], {}):
                    guessed[key] = True
        self._guesses.go_on()
        return self._guesses.open_places(list(guessed))


class Shift:
    """What workers did."""

    def __init__(self, floor):
        self._walker = floor.walker
        self._asked = floor.asked
        self._events = tuple(sorted(floor.started, key=lambda event: event[:3]))
        self._seen = Record(floor.known)
        needed = floor.walker.needed_by(floor.asked)
        self._last = max([end for _, end, _, _ in self._events], default=0)
        self._needed_end = max([end for _, end, _, place in self._events if place in needed], default=0)
        self._needless = ordered([place for _, _, _, place in self._events if place not in needed])

    @property
    def events(self):
        """The tuple of what was done, as (begin, end, worker, place), ascending."""
        return self._events

    @property
    def last(self):
        """When the last step ended, or 0."""
        return self._last

    @property
    def end(self):
        """When the last step ended that one of the keys needs, or 0."""
        return self._needed_end

    @property
    def record(self):
        """The record of all steps that are known at the end."""
        return self._seen

    @property
    def needless(self):
        """A new list, in order, of the places of new steps that none of the keys needs."""
        return list(self._needless)

    @property
    def news(self):
        """The number of new steps."""
        return len(self._events)

    def answer(self, key):
        """The answer of one of the keys."""
        if key not in self._asked:
            raise NotAsked(key)
        return self._walker.settled_answer(key)
