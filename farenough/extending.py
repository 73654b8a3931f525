"""Records that go further than what was seen, so that an open key is settled as wanted."""

from farenough.projects import Source
from farenough.records import Record
from farenough.recipes import STOP
from farenough.walkers import Walker


def extended_to(project, record, key, answer):
    """A record that contains this one, and along which a key that is open here is settled as this answer."""
    known = {**record.table()}
    walker = Walker(project, known, [key])
    # A run that is given a text that was nowhere before is open then: it waits for nothing more, and it does not come
    # to places that were added here for other runs.
    taken = texts_in(project, known)
    other = _first_to_settle(walker, key)
    while other != key:
        known[walker.open_place_of(other[0])] = ("write", other[1], _fresh_text(taken))
        walker.go_on()
        other = _first_to_settle(walker, key)
    known[walker.open_place_of(key[0])] = STOP if answer is None else ("write", key[1], answer)
    return Record(known)


def _first_to_settle(walker, key):
    """The key itself, if its target is open, or else a key that it waits for and whose target is open."""
    while walker.open_place_of(key[0]) is None:
        key = walker.awaited_by(key[0])[0]
    return key


def texts_in(project, known):
    """A new dict of the texts that are answers or names of recipes, or may become so."""
    taken = {}
    for (recipe, _, answers, _), step in known.items():
        taken[recipe] = True
        for row in answers:
            for answer in row:
                taken[answer] = True
        if step[0] == "write":
            taken[step[2]] = True
    for name in project.names:
        target = project[name]
        if isinstance(target, Source):
            for text in target.outputs.values():
                taken[text] = True
        elif isinstance(target.recipe, str):
            taken[target.recipe] = True
    return taken


def _fresh_text(taken):
    """A text that is not among the taken ones. It is one of them then."""
    number = 0
    while str(number) in taken:
        number += 1
    taken[str(number)] = True
    return str(number)
