"""Crews: the runs of a workshop that are kept, so that new steps are taken without going over old ones again."""

from farenough.recipes import led_to


class Crew:
    """Takes steps of a workshop. It keeps the runs that it has begun and that have not stopped."""

    def __init__(self, workshop):
        self._workshop = workshop
        # By the first part of the place where each stands: none passes another one that has the same answers.
        self._runs = {}
        self._replays = 0

    def __len__(self):
        return len(self._runs)

    @property
    def replays(self):
        """The number of steps that were gone over again, to lead new runs to their places."""
        return self._replays

    def drop_all(self):
        """Drops all runs."""
        self._runs = {}

    def take(self, place):
        """The step at a place, taken for the first time. All steps that lead there were taken before."""
        run = self._run_at(place)
        step = run.step
        if step[0] == "write":
            run()
        if step[0] != "stop":
            self._runs[run.place[:3]] = run
        return step

    def _run_at(self, place):
        recipe, arguments, answers, count = place
        run = self._runs.pop((recipe, arguments, answers), None)
        if run is None and answers and count == 0:
            run = self._runs.pop((recipe, arguments, answers[:-1]), None)
            if run is not None:
                run(answers[-1])
        return self._led_to(place) if run is None else run

    def _led_to(self, place):
        recipe, arguments, answers, count = place
        run = self._workshop.begin(recipe, arguments)
        led_to(run, answers, count)
        self._replays += len(run.trail)
        return run
