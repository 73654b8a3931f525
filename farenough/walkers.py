"""Walkers: the runs of a project, led as far as the known steps go. Meanings, walks and engines stand on this."""

from farenough.errors import NotSettled, Stuck
from farenough.projects import Made, Source
from farenough.steps import after_read, after_write, in_order


class Lead:
    """A target that is demanded, and how far its run was led. A source, or a target that is missing, is at its end."""

    def __init__(self, name):
        self.name = name
        # Of a made target: the name or the key of its recipe, and its arguments.
        self.source = None
        self.given = ()
        # The place at which its run stands, if it has begun, and the pairs of a place and a step that it went over.
        self.here = None
        self.gone = []
        self.told = {}
        self.ended = True
        # The outputs that are demanded, and those of them that are not settled: no run is led further than to these.
        self.demanded = []
        self.wanted = {}


class Walker:
    """Leads the runs of a project over known steps, as far as the keys that it is asked for demand it."""

    def __init__(self, project, known, keys):
        self._project = project
        # A dict. Steps may be added to it later; then the runs go on when they are told to.
        self._known = known
        self._leads = {}
        self._asked = {}
        self._demanded = {}
        # For each key that some run waits for, these runs; the runs that are open; the runs that may go on now.
        self._waiting = {}
        self._open = {}
        self._moving = []
        self.want(keys)

    def want(self, keys):
        """Leads the runs as far as these keys demand it, too."""
        for key in keys:
            self._asked[key] = True
            self._demand(key)
        self._move()

    def go_on(self):
        """Leads the runs on over the steps that were added."""
        for name in list(self._open):
            if self._open[name].here in self._known:
                self._moving.append(self._open.pop(name))
        self._move()

    def _demand(self, key):
        if key in self._demanded:
            return
        self._demanded[key] = True
        name, output = key
        if name not in self._leads:
            self._leads[name] = self._lead_for(name)
        lead = self._leads[name]
        lead.demanded.append(output)
        if not lead.ended and output not in lead.told:
            lead.wanted[output] = True
            self._moving.append(lead)

    def _lead_for(self, name):
        lead = Lead(name)
        target = self._project[name] if name in self._project else None
        if isinstance(target, Made):
            lead.source = target.recipe
            lead.given = target.arguments
            lead.ended = False
        elif isinstance(target, Source):
            lead.told = target.outputs
        return lead

    def _move(self):
        while self._moving:
            self._lead_on(self._moving.pop())

    def _lead_on(self, lead):
        """Leads a run on until all that is wanted of it is settled, or it waits or is open."""
        if lead.here is None and lead.wanted:
            self._begin(lead)
        while lead.wanted and lead.here is not None:
            step = self._known.get(lead.here)
            if step is None:
                self._open[lead.name] = lead
                return
            if step[0] == "write":
                self._write(lead, step)
            elif step[0] == "stop":
                lead.gone.append((lead.here, step))
                self._end(lead)
            else:
                answers = self._answers_for(lead, step[1])
                if answers is None:
                    return
                lead.gone.append((lead.here, step))
                lead.here = after_read(lead.here, answers)

    def _begin(self, lead):
        """Begins a run; if its recipe is not told, it waits, or it is at its end."""
        recipe = lead.source
        if not isinstance(recipe, str):
            answers = self._answers_for(lead, (recipe,))
            if answers is None:
                return
            recipe = answers[0]
        if recipe is None:
            self._end(lead)
        else:
            lead.here = (recipe, lead.given, (), 0)

    def _write(self, lead, step):
        _, output, text = step
        lead.told[output] = text
        lead.gone.append((lead.here, step))
        lead.here = after_write(lead.here)
        if output in lead.wanted:
            del lead.wanted[output]
            self._moving.extend(self._waiting.pop((lead.name, output), []))

    def _end(self, lead):
        lead.ended = True
        for output in lead.wanted:
            self._moving.extend(self._waiting.pop((lead.name, output), []))
        lead.wanted = {}

    def _answers_for(self, lead, keys):
        """The tuple of the answers of these keys; None if the run has to wait for one of them."""
        for key in keys:
            self._demand(key)
        missing = [key for key in keys if not self.is_settled(key)]
        for key in missing:
            self._waiting.setdefault(key, []).append(lead)
        return None if missing else tuple([self.answer_of(key) for key in keys])

    def is_settled(self, key):
        """Whether a key that was demanded is settled."""
        name, output = key
        lead = self._leads[name]
        return lead.ended or output in lead.told

    def answer_of(self, key):
        """The answer of a key that was demanded and is settled."""
        name, output = key
        return self._leads[name].told.get(output)

    def settled_answer(self, key):
        """The answer of a key; raises Stuck if it is not settled. (It is not open.)"""
        if not self.is_settled(key):
            raise Stuck(self.ring_of(key))
        return self.answer_of(key)

    def texts(self):
        """A new dict of the texts of all keys of demanded targets that are settled as one."""
        return {(name, output): text for name, lead in self._leads.items() for output, text in lead.told.items()}

    def is_made(self, name):
        """Whether a demanded target is made."""
        return self._leads[name].source is not None

    def place_of(self, name):
        """The place at which the run of a demanded target stands, or None if it has not begun."""
        return self._leads[name].here

    def open_place_of(self, name):
        """The place at which a demanded target is open, or None if it is not open."""
        return self._open[name].here if name in self._open else None

    def awaited_by(self, name):
        """The keys for which a demanded target waits: those that are not settled of the next it needs."""
        lead = self._leads[name]
        if name in self._open or not lead.wanted:
            return []
        keys = [lead.source] if lead.here is None else self._known[lead.here][1]
        return [key for key in keys if not self.is_settled(key)]

    def _stuck_targets(self):
        """The targets that wait for ever: those from which the waits do not all end at open targets."""
        awaited = {name: self.awaited_by(name) for name in self._leads}
        stuck = [name for name in awaited if awaited[name]]
        many = len(stuck) + 1
        while len(stuck) < many:
            many = len(stuck)
            stuck = [name for name in stuck if [key for key in awaited[name] if key[0] in stuck]]
        return stuck

    def is_stuck(self, key):
        """Whether a key that is not settled is stuck, and not open."""
        name, _ = key
        return name in self._stuck_targets()

    def way_from(self, key):
        """The way from a stuck key to the first stuck key it waits for, and so on, up to one that it has already."""
        stuck = self._stuck_targets()
        way = [key]
        while way[-1] not in way[:-1]:
            name, _ = way[-1]
            keys = [other for other in self.awaited_by(name) if other[0] in stuck]
            way.append(keys[0])
        return tuple(way)

    def ring_of(self, key):
        """The ring to which the way from a stuck key leads."""
        way = self.way_from(key)
        return way[way.index(way[-1]):-1]

    def _are_all(self, keys):
        """Whether no other keys were asked for than these, which were."""
        return len({key: True for key in keys}) == len(self._asked)

    def demanded_by(self, keys):
        """The list of all keys that are demanded by some of these keys."""
        self.want(keys)
        if self._are_all(keys):
            return list(self._demanded)
        demanded = {key: True for key in keys}
        waiting = list(demanded)
        while waiting:
            key = waiting.pop()
            for other in self.keys_for(key):
                if other not in demanded:
                    demanded[other] = True
                    waiting.append(other)
        return list(demanded)

    def keys_for(self, key):
        """What the target of a demanded key reads ahead of writing it, its recipe key included."""
        name, output = key
        lead = self._leads[name]
        keys = [lead.source] if isinstance(lead.source, tuple) else []
        for _, step in self._way_to(lead, [output]):
            if step[0] == "read":
                keys.extend(step[1])
        return keys

    def _way_to(self, lead, outputs):
        """The pairs on the way of a run up to the last write of these outputs; all if one is never written."""
        way = list(lead.gone)
        if lead.wanted and lead.here in self._known:
            way.append((lead.here, self._known[lead.here]))
        if len(outputs) == len(lead.demanded):
            # It was led just as far as these outputs demand it.
            return way
        writes = [at for at, (_, step) in enumerate(way) if step[0] == "write" and step[1] in outputs]
        return way[:writes[-1] + 1] if len(writes) == len(outputs) else way

    def open_places(self, keys):
        """The list, in order, of the open places of these keys."""
        self.want(keys)
        leads = list(self._open.values())
        if not self._are_all(keys):
            demanded = self.demanded_by(keys)
            leads = [lead for lead in leads if any([(lead.name, output) in demanded for output in lead.wanted])]
        return in_order([lead.here for lead in leads])

    def needed_by(self, keys):
        """A new dict of the steps, by their places, that are needed by some of these keys."""
        outputs = {}
        for name, output in self.demanded_by(keys):
            outputs.setdefault(name, []).append(output)
        needed = {}
        for name in outputs:
            needed.update(self._way_to(self._leads[name], outputs[name]))
        return needed


def settling_walker(project, record, key):
    """A walker that was asked for a key which the record settles; raises NotSettled."""
    walker = Walker(project, record.table(), [key])
    if not walker.is_settled(key):
        raise NotSettled(key)
    return walker
