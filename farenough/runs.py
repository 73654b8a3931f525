"""Runs of recipes, half done."""

from farenough.recipes import Recipe
from farenough.steps import after_read, after_write


class Run:
    """A run of a recipe under a name. It stands at a place until it is called."""

    def __init__(self, name, recipe, arguments=()):
        self._recipe = recipe
        self._place = (name, arguments, (), 0)
        self._course = recipe.begun(arguments)
        self._step = self._course.step
        self._trail = []

    @property
    def place(self):
        """The place at which the run stands."""
        return self._place

    @property
    def step(self):
        """The step at this place."""
        return self._step

    @property
    def trail(self):
        """The tuple of all pairs of a place and the step there that the run went over."""
        return tuple(self._trail)

    def __call__(self, answers=()):
        """Goes over the step, for a read with these answers, to the next place."""
        place, step = self._place, self._step
        # This raises Halted at a stop, ahead of all changes.
        self._course(answers)
        self._step = self._course.step
        self._place = after_read(place, answers) if step[0] == "read" else after_write(place)
        self._trail.append((place, step))

    def copied(self):
        """An independent run at the same place, with the same trail."""
        run = self._new_run()
        run._recipe = self._recipe
        run._course = self._course.copied()
        run._place = self._place
        run._step = self._step
        run._trail = list(self._trail)
        return run

    def _new_run(self):
        """A run of this class, of a recipe that stops at once: its state is still to be set."""
        return Run("", Recipe())
