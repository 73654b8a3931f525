"""Journals: records in writing, from the front to the back, that may be cut off anywhere."""

from farenough.entries import EntryReader, body_in, first_body, line_for, next_body
from farenough.errors import BadEntry, Clash, Gap, Rewritten
from farenough.records import Record, is_first, leads_to, place_ahead
from farenough.steps import after_read, after_write, ordered


class Journal:
    """Entries of steps, one line each. What a cut tore off at the end is left out when it is read."""

    def __init__(self, text=""):
        self._lines = []
        # The place of each entry; by its place, each step and the number of its first entry.
        self._places = []
        self._steps = {}
        self._numbers = {}
        # By the first part of each place, which tells its answers, the place of the read behind them.
        self._reads = {}
        # The outputs that are written on the way to each place, and there.
        self._outputs = {}
        *lines, rest = text.split("\n")
        self._is_torn = rest != ""
        for entry, line in enumerate(lines):
            body = body_in(line)
            if body is not None:
                self._read_entry(body, entry)
                self._lines.append(line)
            elif entry == len(lines) - 1 and not self._is_torn:
                self._is_torn = True
            else:
                raise BadEntry(entry)

    @property
    def text(self):
        """The text of all entries."""
        return "".join([f"{line}\n" for line in self._lines])

    @property
    def is_torn(self):
        """Whether a line at the end was left out when the journal was read."""
        return self._is_torn

    @property
    def record(self):
        """The record of all steps."""
        return Record({**self._steps})

    def __len__(self):
        return len(self._lines)

    def __eq__(self, other):
        return isinstance(other, Journal) and self._steps == other._steps

    def add(self, place, step):
        """Writes an entry at the end, unless the step is there; whether it was written."""
        if place in self._steps:
            if self._steps[place] != step:
                raise Clash(place)
            return False
        ahead = None if is_first(place) else place_ahead(place, self._reads)
        if not is_first(place) and not leads_to(self._steps.get(ahead), place):
            raise Gap(place)
        if self._is_rewritten(ahead, step):
            raise Rewritten(place)
        body = first_body(place, step) if ahead is None else next_body(self._numbers[ahead], place, step)
        self._note(place, ahead, step)
        self._lines.append(line_for(body))
        return True

    def keep(self, record):
        """Adds all steps of a record, places in order; the number of new entries."""
        table = record.table()
        clashing = [place for place in table if place in self._steps and self._steps[place] != table[place]]
        if clashing:
            raise Clash(ordered(clashing)[0])
        many = len(self)
        rows = list(record.steps())
        for place, step in rows:
            self.add(place, step)
        return len(self) - many

    def packed(self):
        """A new journal with the same record, each place once, in order."""
        journal = Journal()
        journal.keep(self.record)
        return journal

    def _is_rewritten(self, ahead, step):
        """Whether a step writes an output that is written on the way from the beginning up to the place ahead of it."""
        return step[0] == "write" and step[1] in self._outputs.get(ahead, ())

    def _note(self, place, ahead, step):
        """Notes the place and the step of the next entry."""
        self._numbers.setdefault(place, len(self._places))
        self._places.append(place)
        self._steps[place] = step
        outputs = self._outputs.get(ahead, ())
        self._outputs[place] = (*outputs, step[1]) if step[0] == "write" else outputs
        if step[0] == "read":
            self._reads[place[:3]] = place

    def _read_entry(self, body, entry):
        reader = EntryReader(body, entry)
        word = reader.next_word()
        reader.check(word in ("root", "after"))
        ahead, place = self._first_place(reader) if word == "root" else self._place_after(reader)
        step = reader.last_step()
        reader.check(self._steps.get(place, step) == step and not self._is_rewritten(ahead, step))
        self._note(place, ahead, step)

    def _first_place(self, reader):
        """None, which is ahead of it, and the first place that an entry tells."""
        recipe = reader.next_text()
        return None, (recipe, reader.next_arguments(), (), 0)

    def _place_after(self, reader):
        """The place of an earlier entry, and the place right behind it that an entry tells."""
        number = reader.next_number()
        reader.check(number < len(self._places))
        ahead = self._places[number]
        step = self._steps[ahead]
        if not reader.sees_number():
            reader.check(step[0] == "write")
            return ahead, after_write(ahead)
        answers = reader.next_answers()
        reader.check(step[0] == "read" and len(step[1]) == len(answers))
        return ahead, after_read(ahead, answers)
