"""Texts, names, keys, steps and places: what they are, which comes next, and their order."""

LONGEST_TEXT = 400
LONGEST_NAME = 8
MOST_ARGUMENTS = 4
MOST_KEYS = 4


def is_integer(value):
    """Whether any value is an integer; a boolean is none."""
    return isinstance(value, int) and not isinstance(value, bool)


def is_text(value):
    """Whether any value is a text."""
    if not isinstance(value, str) or len(value) > LONGEST_TEXT or not value.isascii() or not value.isprintable():
        return False
    # The percent sign is told by its number, since the language keeps it out of strings.
    return len(value.translate({37: None})) == len(value)


def is_name(value):
    """Whether any value is the name of a target or of an output."""
    if not isinstance(value, str) or not 1 <= len(value) <= LONGEST_NAME:
        return False
    return "a" <= value[0] <= "z" and value.isascii() and value.isalnum() and value.islower()


def is_key(value):
    """Whether any value is a key."""
    return isinstance(value, tuple) and len(value) == 2 and is_name(value[0]) and is_name(value[1])


def are_keys(value):
    """Whether any value is what a step reads: a tuple of one to four different keys."""
    if not isinstance(value, tuple) or not 1 <= len(value) <= MOST_KEYS:
        return False
    return all([is_key(key) for key in value]) and len(set(value)) == len(value)


def are_answers(value):
    """Whether any value is what a read is given: a tuple of one to four answers."""
    if not isinstance(value, tuple) or not 1 <= len(value) <= MOST_KEYS:
        return False
    return all([answer is None or is_text(answer) for answer in value])


def are_arguments(value):
    """Whether any value is a tuple of at most four texts."""
    if not isinstance(value, tuple) or len(value) > MOST_ARGUMENTS:
        return False
    return all([is_text(argument) for argument in value])


def is_step(value):
    """Whether any value is a step."""
    if not isinstance(value, tuple):
        return False
    if len(value) == 2:
        return value[0] == "read" and are_keys(value[1])
    if len(value) == 3:
        return value[0] == "write" and is_name(value[1]) and is_text(value[2])
    return value == ("stop",)


def is_place(value):
    """Whether any value is a place of some recipe."""
    if not isinstance(value, tuple) or len(value) != 4:
        return False
    recipe, arguments, answers, count = value
    if not is_text(recipe) or not are_arguments(arguments) or not isinstance(answers, tuple):
        return False
    return all([are_answers(row) for row in answers]) and is_integer(count) and count >= 0


def after_write(place):
    """The place after a write at this place."""
    recipe, arguments, answers, count = place
    return recipe, arguments, answers, count + 1


def after_read(place, answers):
    """The place after a read at this place that was given these answers."""
    recipe, arguments, rows, _ = place
    return recipe, arguments, (*rows, answers), 0


def is_behind(place, other):
    """Whether the place is behind the other one, by the words of point 5 alone."""
    recipe, arguments, answers, count = place
    other_recipe, other_arguments, other_answers, other_count = other
    if recipe != other_recipe or arguments != other_arguments:
        return False
    if answers == other_answers:
        return other_count < count
    return answers[:len(other_answers)] == other_answers


def in_order(places):
    """A new list of the places in order, each once."""
    return ordered(list(places) if len(places) < 2 else list({place: True for place in places}))


def ordered(places):
    """A new list of different places in order."""
    # Where None is nowhere among the answers, Python compares the places themselves just so.
    if any([None in row for _, _, answers, _ in places for row in answers]):
        return sorted(places, key=_rank)
    return sorted(places)


def _rank(place):
    recipe, arguments, answers, count = place
    return recipe, arguments, tuple([_rank_of_answers(row) for row in answers]), count


def _rank_of_answers(answers):
    # The empty string comes before every other one, as None comes before every text.
    return tuple(["" if answer is None else "." + answer for answer in answers])
