"""Entries of a journal: the lines in which steps are written."""

from farenough.errors import BadEntry
from farenough.steps import MOST_ARGUMENTS, MOST_KEYS, is_step, is_text
from farenough.tokens import writes_number
from farenough.wording import line_of, word_of

_CHECK_MODULUS = 9973


def line_for(body):
    """The line of an entry with this body."""
    return f"{len(body)} {_check_number(body)} {body}"


def body_in(line):
    """The body of a line, or None if its length or its check number does not fit or is not there."""
    length, _, rest = line.partition(" ")
    check, _, body = rest.partition(" ")
    return body if length == str(len(body)) and check == str(_check_number(body)) else None


def _check_number(body):
    return sum([at * ord(sign) for at, sign in enumerate(body, start=1)]) % _CHECK_MODULUS


def first_body(place, step):
    """The body of an entry for the first place of a recipe with its arguments."""
    recipe, arguments, _, _ = place
    return f"{line_of('root', [recipe, len(arguments), *arguments])} {_step_words(step)}"


def next_body(number, place, step):
    """The body of an entry for the place behind the one that has the entry of this number."""
    _, _, answers, count = place
    told = [number] if count > 0 else [number, len(answers[-1]), *answers[-1]]
    return f"{line_of('after', told)} {_step_words(step)}"


def _step_words(step):
    if step[0] == "read":
        keys = [f"{target}.{output}" for target, output in step[1]]
        return " ".join(["read", str(len(keys)), *keys])
    if step[0] == "write":
        return f"write {step[1]} {word_of(step[2])}"
    return "stop"


class EntryReader:
    """Reads the body of an entry from the left. Raises BadEntry where it does not have one of the forms."""

    def __init__(self, body, entry):
        self._body = body
        self._entry = entry
        # Behind the last word this is one more than the length.
        self._at = 0

    def check(self, right):
        """Raises BadEntry if something in the entry is not right."""
        if not right:
            raise BadEntry(self._entry)

    def next_word(self):
        """The next word, as it stands."""
        word, _, _ = self._body[self._at:].partition(" ")
        self.check(word != "")
        self._at += len(word) + 1
        return word

    def next_number(self):
        """The next word, which is a number."""
        return self._number_in(self.next_word())

    def _number_in(self, word):
        self.check(writes_number(word))
        return int(word)

    def _next_many(self, least, most):
        many = self.next_number()
        self.check(least <= many <= most)
        return many

    def sees_number(self):
        """Whether a number comes next."""
        return "0" <= self._body[self._at:self._at + 1] <= "9"

    def next_text(self):
        """The next text."""
        length, _, _ = self._body[self._at:].partition(":")
        begin = self._at + len(length) + 1
        end = begin + self._number_in(length)
        text = self._body[begin:end]
        # Behind a text there is a space, or the end of the body.
        self.check(is_text(text) and (end == len(self._body) or self._body[end:end + 1] == " "))
        self._at = end + 1
        return text

    def _next_answer(self):
        if self._body[self._at:self._at + 1] != "-":
            return self.next_text()
        self.check(self.next_word() == "-")
        return None

    def next_arguments(self):
        """The arguments of a place, behind their number."""
        return tuple([self.next_text() for _ in range(self._next_many(0, MOST_ARGUMENTS))])

    def next_answers(self):
        """The answers to a read, behind their number."""
        return tuple([self._next_answer() for _ in range(self._next_many(1, MOST_KEYS))])

    def _next_key(self):
        target, _, output = self.next_word().partition(".")
        return target, output

    def last_step(self):
        """The step that is the rest of the body."""
        step = (self.next_word(),)
        if step[0] == "read":
            step = ("read", tuple([self._next_key() for _ in range(self._next_many(1, MOST_KEYS))]))
        elif step[0] == "write":
            step = ("write", self.next_word(), self.next_text())
        self.check(is_step(step) and self._at > len(self._body))
        return step
