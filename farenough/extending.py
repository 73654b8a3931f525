"""Records that go further than what was seen, so that an open key is settled as wanted."""

from farenough.records import Record
from farenough.recipes import STOP
from farenough.walkers import Walker


def extended_to(project, record, key, answer):
    """A record that contains this one, and along which a key that is open here is settled as this answer."""
    known = {}
    for place, step in record.steps():
        known[place] = step
    walker = Walker(project, known)
    # No place of the record has this text: a run that is given it is open there, and waits for nothing more.
    fresh = _fresh_text(known)
    other = _first_to_settle(walker, key)
    while other != key:
        known[walker.open_place_of(other[0])] = ("write", other[1], fresh)
        walker.go_on()
        other = _first_to_settle(walker, key)
    known[walker.open_place_of(key[0])] = STOP if answer is None else ("write", key[1], answer)
    return Record(known)


def _first_to_settle(walker, key):
    """The key itself, if its target is open, or else a key that it waits for and whose target is open."""
    while walker.open_place_of(key[0]) is None:
        key = walker.awaited_by(key[0])[0]
    return key


def _fresh_text(known):
    """A text that is neither the name of a recipe nor an answer in these places."""
    taken = {}
    for recipe, _, answers, _ in known:
        taken[recipe] = True
        for row in answers:
            for answer in row:
                taken[answer] = True
    number = 0
    while str(number) in taken:
        number += 1
    return str(number)
