"""What a project and a workshop settle."""

from farenough.crews import Crew
from farenough.errors import NoTarget
from farenough.walkers import Walker


class Meaning:
    """Runs every made target of a project as far as it goes."""

    def __init__(self, project, workshop):
        steps = {}
        self._walker = Walker(project, steps)
        crew = Crew(workshop)
        places = self._walker.all_open_places()
        while places:
            for place in places:
                steps[place] = crew.take(place)
            self._walker.go_on()
            places = self._walker.all_open_places()

    def is_settled(self, key):
        """Whether a key is settled."""
        return self._walker.is_settled(key)

    def answer(self, key):
        """The answer of a key that is settled."""
        return self._walker.settled_answer(key)

    def texts(self):
        """A new dict of the texts of all keys that are settled as one."""
        return self._walker.texts()

    def place_of(self, name):
        """The place at which the run of a made target ended or waits, or None if it has not begun."""
        if not self._walker.is_made(name):
            raise NoTarget(name)
        return self._walker.place_of(name)
