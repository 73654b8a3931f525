"""The errors of all stages. Each keeps what it was made of in attributes of the same names."""


class BuildError(ValueError):
    """The base of the errors of this package."""


class BadTree(BuildError):
    """The node of a tree to which the path leads is at fault."""

    def __init__(self, path):
        self.path = path


class Halted(BuildError):
    """A run stands at a stop, behind which nothing comes."""


class NoTarget(BuildError):
    """There is no target of this name, or none of the kind that is asked for."""

    def __init__(self, name):
        self.name = name


class NotSource(BuildError):
    """The target of this name is made, so its outputs are not given by hand."""

    def __init__(self, name):
        self.name = name


class Stuck(BuildError):
    """A key is not settled; it waits in this ring of keys, or for it."""

    def __init__(self, ring):
        self.ring = ring


class Clash(BuildError):
    """A place has two different steps."""

    def __init__(self, spot):
        self.spot = spot


class Gap(BuildError):
    """No steps lead to this place."""

    def __init__(self, spot):
        self.spot = spot


class Rewritten(BuildError):
    """The step at this place writes an output that was written on the way to it."""

    def __init__(self, spot):
        self.spot = spot


class NoPlace(BuildError):
    """The record does not have this place."""

    def __init__(self, spot):
        self.spot = spot


class NotSettled(BuildError):
    """The walk along the record does not settle this key."""

    def __init__(self, key):
        self.key = key


class NotNeeded(BuildError):
    """This place is not in the need of the key."""

    def __init__(self, spot):
        self.spot = spot


class BadLine(BuildError):
    """This line of a program cannot stand where it stands."""

    def __init__(self, line):
        self.line = line


class BadName(BuildError):
    """This line of a program has a name that it must not introduce, set or use."""

    def __init__(self, line, name):
        self.line = line
        self.name = name


class BadKind(BuildError):
    """In this line of a program the kinds, or the numbers of arguments, do not fit."""

    def __init__(self, line):
        self.line = line


class NotOpen(BuildError):
    """The state of this key is not open."""

    def __init__(self, key):
        self.key = key


class NotCause(BuildError):
    """This key is no cause of the key that is asked about."""

    def __init__(self, cause):
        self.cause = cause


class NotFresh(BuildError):
    """This text occurs already where a new one is asked for."""

    def __init__(self, words):
        self.words = words


class NotPart(BuildError):
    """This place of the kept record is not in the record, or has another step there."""

    def __init__(self, spot):
        self.spot = spot


class Mismatch(BuildError):
    """The target of this name is not the one from which a change leads on."""

    def __init__(self, name):
        self.name = name


class Conflict(BuildError):
    """These targets and outputs of two versions cannot be put together."""

    def __init__(self, conflicts):
        self.conflicts = conflicts


class Failed(BuildError):
    """The deed of an attempt to which the path leads failed."""

    def __init__(self, path):
        self.path = path


class BadEntry(BuildError):
    """This entry of a journal cannot stand where it stands."""

    def __init__(self, entry):
        self.entry = entry


class NoRow(BuildError):
    """The value is no row that a desk can be told."""


class Taken(BuildError):
    """There is a program, or a step of a recipe, with this name already."""

    def __init__(self, name):
        self.name = name


class NotAsked(KeyError):
    """This key is none of the keys that were asked for."""

    def __init__(self, key):
        self.key = key


class NoVersion(IndexError):
    """The history has no version of this number."""

    def __init__(self, number):
        self.number = number
