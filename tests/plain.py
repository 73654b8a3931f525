"""The words of points 9 to 14 and 17, carried out in the plainest way, to compare the program with."""

from farenough.projects import Source


class Plain:
    """The meaning of a project where each step is told by `step_at(place)`; None stands for a place that is open."""

    def __init__(self, project, step_at):
        self.project, self.step_at = project, step_at
        texts, done = None, None
        self.texts, self.done = {}, set()
        while (texts, done) != (self.texts, self.done):
            texts, done = self.texts, self.done
            self.texts, self.done, self.ways, self.ends = {}, set(), {}, {}
            for name in project.names:
                self.lead(name, texts, done)

    def lead(self, name, texts, done):
        """Begins the run of a target anew, and leads it as far as the answers of the last round allow."""
        target = self.project[name]
        self.ways[name], self.ends[name] = [], None
        if isinstance(target, Source):
            self.texts.update({(name, output): text for output, text in target.outputs.items()})
            self.done.add(name)
            return
        recipe = target.recipe
        if isinstance(recipe, tuple):
            if not self.settles(recipe, texts, done):
                return
            recipe = texts.get(recipe)
        if recipe is None:
            self.done.add(name)
        else:
            self.run(name, (recipe, target.arguments, (), 0), texts, done)

    def run(self, name, place, texts, done):
        step = self.step_at(place)
        while step is not None:
            self.ways[name].append((place, step))
            recipe, arguments, answers, count = place
            if step[0] == "stop":
                self.done.add(name)
                break
            if step[0] == "write":
                self.texts[(name, step[1])] = step[2]
                place = (recipe, arguments, answers, count + 1)
            elif all(self.settles(key, texts, done) for key in step[1]):
                place = (recipe, arguments, answers + (tuple(texts.get(key) for key in step[1]),), 0)
            else:
                break
            step = self.step_at(place)
        self.ends[name] = place

    def settles(self, key, texts, done):
        return key in texts or key[0] in done or key[0] not in self.project

    def is_settled(self, key):
        return self.settles(key, self.texts, self.done)

    def answer(self, key):
        return self.texts.get(key)

    def is_open(self, name):
        return self.ends.get(name) is not None and self.step_at(self.ends[name]) is None

    def awaited(self, name):
        """The keys for which a target waits, settled ones among them."""
        if self.ends[name] is None:
            return (self.project[name].recipe,)
        return () if self.is_open(name) else self.ways[name][-1][1][1]

    def way_to(self, name, outputs):
        """The way of a target up to the last write of some outputs, or all of it if one of them is not written."""
        way, missing = [], set(outputs)
        for place, step in self.ways.get(name, []):
            way.append((place, step))
            if step[0] == "write":
                missing.discard(step[1])
            if not missing:
                return way
        return way

    def demand(self, *keys):
        demanded, waiting = set(), list(keys)
        while waiting:
            name, output = waiting.pop()
            if (name, output) in demanded:
                continue
            demanded.add((name, output))
            if name in self.project and isinstance(getattr(self.project[name], "recipe", None), tuple):
                waiting.append(self.project[name].recipe)
            for _, step in self.way_to(name, [output]):
                if step[0] == "read":
                    waiting.extend(step[1])
        return demanded

    def need(self, *keys):
        demanded, needed = self.demand(*keys), {}
        for name in {name for name, _ in demanded}:
            needed.update(self.way_to(name, [output for other, output in demanded if other == name]))
        return needed

    def is_stuck(self, key, passed=()):
        """Whether a way of waits goes round somewhere behind a key."""
        name = key[0]
        if self.is_settled(key) or self.is_open(name):
            return False
        if name in passed:
            return True
        return any(self.is_stuck(other, (*passed, name)) for other in self.awaited(name))

    def state(self, key):
        if self.is_settled(key):
            return "settled"
        return "stuck" if self.is_stuck(key) else "open"

    def open_places(self, *keys):
        return {self.ends[name] for name, output in self.demand(*keys)
                if self.is_open(name) and not self.is_settled((name, output))}

    def is_ring(self, ring, key):
        """Whether this is a ring of keys in the demand of the key: point 10."""
        if not isinstance(ring, tuple) or not ring or len({name for name, _ in ring}) != len(ring):
            return False
        for at, (name, output) in enumerate(ring):
            waits = name in self.project and not self.is_settled((name, output)) and not self.is_open(name)
            if not waits or (name, output) not in self.demand(key):
                return False
            if ring[(at + 1) % len(ring)] not in self.awaited(name):
                return False
        return True
