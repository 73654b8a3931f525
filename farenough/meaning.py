"""What a project and a workshop settle."""

from farenough.errors import NoTarget, Stuck
from farenough.projects import Made
from farenough.steps import is_key


class Meaning:
    """Runs every made target of a project as far as it goes."""

    def __init__(self, project, workshop):
        self._workshop = workshop
        self._made = {}
        # The runs of the made targets that have begun.
        self._runs = {}
        # The made targets that write nothing more.
        self._over = {}
        self._texts = {}
        for name in project.names:
            target = project[name]
            if isinstance(target, Made):
                self._made[name] = target
            else:
                for output, text in target.outputs.items():
                    self._texts[(name, output)] = text
        self._run_all()

    def _run_all(self):
        moved = True
        while moved:
            moved = False
            for name in self._made:
                if self._moves(name):
                    moved = True

    def _moves(self, name):
        """Lets a made target do the next thing it can do; whether there was one."""
        if name in self._over:
            return False
        if name not in self._runs:
            return self._begins(name)
        return self._takes_step(name)

    def _begins(self, name):
        recipe = self._made[name].recipe
        if is_key(recipe):
            if not self.is_settled(recipe):
                return False
            recipe = self._texts.get(recipe)
        if recipe is None:
            self._over[name] = True
        else:
            self._runs[name] = self._workshop.begin(recipe, self._made[name].arguments)
        return True

    def _takes_step(self, name):
        run = self._runs[name]
        step = run.step
        if step[0] == "read":
            if not all([self.is_settled(key) for key in step[1]]):
                return False
            run(tuple([self._texts.get(key) for key in step[1]]))
        elif step[0] == "write":
            self._texts[(name, step[1])] = step[2]
            run()
        else:
            self._over[name] = True
        return True

    def is_settled(self, key):
        """Whether a key is settled."""
        name, _ = key
        return key in self._texts or name not in self._made or name in self._over

    def answer(self, key):
        """The answer of a key that is settled."""
        if not self.is_settled(key):
            raise Stuck(self._ring_of(key))
        return self._texts.get(key)

    def _ring_of(self, key):
        """The ring to which the way leads that goes from the key to the first key it waits for, and so on."""
        way = [key]
        # For each target on the way, where the key stands for which it waits.
        awaited = {}
        while way[-1][0] not in awaited:
            name, _ = way[-1]
            awaited[name] = len(way)
            way.append(self._awaited_by(name))
        return tuple(way[awaited[way[-1][0]]:])

    def _awaited_by(self, name):
        """The first key that is not settled of those for which a made target waits."""
        if name not in self._runs:
            return self._made[name].recipe
        keys = [key for key in self._runs[name].step[1] if not self.is_settled(key)]
        return keys[0]

    def texts(self):
        """A new dict of the texts of all keys that are settled as one."""
        return {key: self._texts[key] for key in self._texts}

    def place_of(self, name):
        """The place at which the run of a made target ended or waits, or None if it has not begun."""
        if name not in self._made:
            raise NoTarget(name)
        return self._runs[name].place if name in self._runs else None
