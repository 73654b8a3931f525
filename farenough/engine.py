"""Engines: they take the steps that an answer needs and that their record does not have yet."""

from farenough.crews import Crew
from farenough.records import Record
from farenough.walkers import Walker


class Engine:
    """Answers for keys of projects, and keeps a record of all steps that it has seen."""

    def __init__(self, workshop, *, record=None):
        self._crew = Crew(workshop)
        self._seen = Record() if record is None else record
        # All steps that were seen; behind each ask the record has them, too.
        self._known = {**self._seen.table()}
        self._news = []

    def ask(self, project, key):
        """The answer of a key, after all steps that it needs were taken."""
        walker = Walker(project, self._known, [key])
        self._take_all(walker, [key])
        return walker.settled_answer(key)

    def __call__(self, project, key):
        """Asks for a key."""
        return self.ask(project, key)

    def pursue(self, project, keys):
        """Takes all steps that these keys need; a tuple of the new ones, each with its place."""
        return tuple(self._take_all(Walker(project, self._known, keys), keys))

    def steps(self, project, key):
        """Yields each new step that a key needs, with its place, right after it was taken."""
        walker = Walker(project, self._known, [key])
        places = walker.open_places([key])
        while places:
            pair = self._take(places[0])
            self._keep_record()
            yield pair
            walker.go_on()
            places = walker.open_places([key])

    def walker_for(self, project, key):
        """A walker along the steps that are known; it may go on when more were taken."""
        return Walker(project, self._known, [key])

    def _take_all(self, walker, keys):
        taken = []
        places = walker.open_places(keys)
        while places:
            taken.append(self._take(places[0]))
            walker.go_on()
            places = walker.open_places(keys)
        if taken:
            self._keep_record()
        return taken

    def _take(self, place):
        step = self._crew.take(place)
        self._known[place] = step
        self._news.append((place, step))
        return place, step

    def _keep_record(self):
        self._seen = Record({**self._known})

    @property
    def record(self):
        """The record of all steps that were seen."""
        return self._seen

    @property
    def news(self):
        """The tuple of all steps that were taken so far, each with its place."""
        return tuple(self._news)

    @property
    def replays(self):
        """The number of steps that were gone over again, to lead new runs to their places."""
        return self._crew.replays

    def close(self):
        """Drops all runs that are kept."""
        self._crew.drop_all()

    def __len__(self):
        return len(self._crew)
