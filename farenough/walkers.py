"""Walkers: the runs of a project, led as far as the known steps go. Meanings, walks and engines stand on this."""

from farenough.errors import Stuck
from farenough.projects import Made
from farenough.steps import after_read, after_write, in_order


class Walker:
    """Leads the runs of all made targets of a project over known steps."""

    def __init__(self, project, known):
        # A record or a dict. Steps may be added to a dict later; then the runs go on when they are told to.
        self._known = known
        self._made = {}
        # The place at which each run stands that has begun, and the pairs of a place and a step that it went over.
        self._places = {}
        self._trails = {}
        # The made targets that write nothing more.
        self._over = {}
        self._texts = {}
        for name in project.names:
            target = project[name]
            if isinstance(target, Made):
                self._made[name] = target
            else:
                for output, text in target.outputs.items():
                    self._texts[(name, output)] = text
        self.go_on()

    def go_on(self):
        """Leads all runs as far as the steps go that are known now."""
        moved = True
        while moved:
            moved = False
            for name in self._made:
                while self._moves(name):
                    moved = True

    def _moves(self, name):
        """Lets a made target do the next thing it can do; whether there was one."""
        if name in self._over:
            return False
        if name not in self._places:
            return self._begins(name)
        place = self._places[name]
        if place not in self._known:
            return False
        return self._goes_over(name, place, self._known[place])

    def _begins(self, name):
        made = self._made[name]
        recipe = made.recipe
        if not isinstance(recipe, str):
            if not self.is_settled(recipe):
                return False
            recipe = self.answer_of(recipe)
        if recipe is None:
            self._over[name] = True
        else:
            self._places[name] = (recipe, made.arguments, (), 0)
            self._trails[name] = []
        return True

    def _goes_over(self, name, place, step):
        if step[0] == "stop":
            self._over[name] = True
            return True
        if step[0] == "write":
            self._texts[(name, step[1])] = step[2]
            self._places[name] = after_write(place)
        else:
            if not all([self.is_settled(key) for key in step[1]]):
                return False
            self._places[name] = after_read(place, tuple([self.answer_of(key) for key in step[1]]))
        self._trails[name].append((place, step))
        return True

    def is_settled(self, key):
        """Whether a key is settled."""
        name, _ = key
        return key in self._texts or name not in self._made or name in self._over

    def answer_of(self, key):
        """The answer of a key that is settled."""
        return self._texts.get(key)

    def settled_answer(self, key):
        """The answer of a key; raises Stuck if it is not settled. (It is not open.)"""
        if not self.is_settled(key):
            raise Stuck(self.ring_of(key))
        return self.answer_of(key)

    def texts(self):
        """A new dict of the texts of all keys that are settled as one."""
        return {key: self._texts[key] for key in self._texts}

    def is_made(self, name):
        """Whether there is a made target of this name."""
        return name in self._made

    def place_of(self, name):
        """The place at which the run of a made target stands, or None if it has not begun."""
        return self._places.get(name)

    def open_place_of(self, name):
        """The place at which a target is open, or None if it is not open."""
        if name not in self._places or self._places[name] in self._known:
            return None
        return self._places[name]

    def all_open_places(self):
        """The list, in order, of the places at which the targets of the project are open."""
        places = [self.open_place_of(name) for name in self._made]
        return in_order([place for place in places if place is not None])

    def awaited_by(self, name):
        """The keys for which a made target waits: those that are not settled of the next it needs."""
        if name in self._over:
            return []
        if name not in self._places:
            keys = [self._made[name].recipe]
        elif self._places[name] in self._known:
            keys = self._known[self._places[name]][1]
        else:
            keys = []
        return [key for key in keys if not self.is_settled(key)]

    def _stuck_targets(self):
        """The targets that wait for ever: those from which the waits do not all end at open targets."""
        stuck = [name for name in self._made if self.awaited_by(name)]
        many = len(self._made) + 1
        while len(stuck) < many:
            many = len(stuck)
            stuck = [name for name in stuck if [key for key in self.awaited_by(name) if key[0] in stuck]]
        return stuck

    def is_stuck(self, key):
        """Whether a key that is not settled is stuck, and not open."""
        name, _ = key
        return name in self._stuck_targets()

    def way_from(self, key):
        """The way from a stuck key to the first stuck key it waits for, and so on, up to one that it has already."""
        stuck = self._stuck_targets()
        way = [key]
        while way[-1] not in way[:-1]:
            name, _ = way[-1]
            keys = [other for other in self.awaited_by(name) if other[0] in stuck]
            way.append(keys[0])
        return tuple(way)

    def ring_of(self, key):
        """The ring to which the way from a stuck key leads."""
        way = self.way_from(key)
        return way[way.index(way[-1]):-1]

    def demanded_by(self, keys):
        """The list of all keys that are demanded by some of these keys."""
        demanded = {key: True for key in keys}
        waiting = list(demanded)
        while waiting:
            key = waiting.pop()
            for other in self._keys_for(key):
                if other not in demanded:
                    demanded[other] = True
                    waiting.append(other)
        return list(demanded)

    def _keys_for(self, key):
        """What the target of a key reads ahead of writing it, its recipe key included."""
        name, output = key
        if name not in self._made:
            return []
        recipe = self._made[name].recipe
        keys = [] if isinstance(recipe, str) else [recipe]
        for _, step in self._way_to(name, [output]):
            if step[0] == "read":
                keys.extend(step[1])
        return keys

    def _way_to(self, name, outputs):
        """The pairs on the way of a target up to the last write of these outputs; all if one is never written."""
        way = list(self._trails.get(name, []))
        place = self._places.get(name)
        if place in self._known:
            way.append((place, self._known[place]))
        writes = [at for at, (_, step) in enumerate(way) if step[0] == "write" and step[1] in outputs]
        return way[:writes[-1] + 1] if len(writes) == len(outputs) else way

    def open_places(self, keys):
        """The list, in order, of the open places of these keys."""
        demanded = [key for key in self.demanded_by(keys) if not self.is_settled(key)]
        places = [self.open_place_of(name) for name, _ in demanded]
        return in_order([place for place in places if place is not None])

    def needed_by(self, keys):
        """A new dict of the steps, by their places, that are needed by some of these keys."""
        outputs = {}
        for name, output in self.demanded_by(keys):
            outputs.setdefault(name, []).append(output)
        needed = {}
        for name in outputs:
            for place, step in self._way_to(name, outputs[name]):
                needed[place] = step
        return needed
