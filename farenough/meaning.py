"""What a project and a workshop settle."""

from farenough.crews import Crew
from farenough.errors import NoTarget
from farenough.projects import Made
from farenough.walkers import Walker


class Meaning:
    """Runs every made target of a project as far as it goes."""

    def __init__(self, project, workshop):
        self._project = project
        steps = {}
        # An output that no recipe writes: all runs are led as far as they go.
        keys = [(name, "") for name in project.names]
        self._walker = Walker(project, steps, keys)
        crew = Crew(workshop)
        places = self._walker.open_places(keys)
        while places:
            for place in places:
                steps[place] = crew.take(place)
            self._walker.go_on()
            places = self._walker.open_places(keys)

    def is_settled(self, key):
        """Whether a key is settled."""
        self._walker.want([key])
        return self._walker.is_settled(key)

    def answer(self, key):
        """The answer of a key that is settled."""
        self._walker.want([key])
        return self._walker.settled_answer(key)

    def texts(self):
        """A new dict of the texts of all keys that are settled as one."""
        return self._walker.texts()

    def place_of(self, name):
        """The place at which the run of a made target ended or waits, or None if it has not begun."""
        if name not in self._project or not isinstance(self._project[name], Made):
            raise NoTarget(name)
        return self._walker.place_of(name)
