"""Runs of recipes, half done."""

from farenough.errors import Halted
from farenough.steps import after_read, after_write


class Run:
    """A run of a recipe under a name. It stands at a place until it is called."""

    def __init__(self, name, recipe, arguments=()):
        self._recipe = recipe
        self._trail = []
        self._stand_at((name, arguments, (), 0))

    def _stand_at(self, place):
        _, arguments, answers, count = place
        self._step = self._recipe.step_at(arguments, answers, count)
        self._place = place

    @property
    def place(self):
        """The place at which the run stands."""
        return self._place

    @property
    def step(self):
        """The step at this place."""
        return self._step

    @property
    def trail(self):
        """The tuple of all pairs of a place and the step there that the run went over."""
        return tuple(self._trail)

    def __call__(self, answers=()):
        """Goes over the step, for a read with these answers, to the next place."""
        place, step = self._place, self._step
        if step[0] == "stop":
            raise Halted()
        if step[0] == "read":
            self._stand_at(after_read(place, answers))
        else:
            self._stand_at(after_write(place))
        self._trail.append((place, step))

    def copied(self):
        """An independent run at the same place, with the same trail."""
        name, arguments, _, _ = self._place
        run = Run(name, self._recipe, arguments)
        run._trail = list(self._trail)
        run._stand_at(self._place)
        return run
