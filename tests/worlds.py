"""Small projects and workshops by chance, for tests that compare the program with a plain reading."""

import itertools
import random

from farenough.projects import Made, Project, Source
from farenough.recipes import TreeRecipe
from farenough.workshops import Workshop
from samples import STOP, read, write


class World:
    """Makes projects, workshops and keys, always the same ones for one seed."""

    TARGETS, OUTPUTS, TEXTS = ["a", "b", "c", "d", "e"], ["x", "y"], ["r0", "r1", "r2", "no"]
    KEYS = list(itertools.product(TARGETS, OUTPUTS))

    def __init__(self, seed, arguments=()):
        self.chance = random.Random(seed)
        self.arguments = [(), *arguments]

    def key(self):
        return self.chance.choice(self.TARGETS), self.chance.choice(self.OUTPUTS)

    def node(self, depth, left):
        kind = self.chance.choice(["read", "read", "write", "stop"] if depth else ["stop"])
        if kind == "write" and left:
            output = self.chance.choice(left)
            part = self.chance.choice(self.TEXTS + [(0, 0), (1, 0), (2, 0)])
            return write(output, (part,), self.node(depth - 1, [other for other in left if other != output]))
        if kind == "read":
            keys = tuple(dict.fromkeys(self.key() for _ in range(self.chance.randint(1, 2))))
            given = [tuple(self.chance.choice(self.TEXTS + [None]) for _ in keys) for _ in range(2)]
            cases = tuple((answers, self.node(depth - 1, left)) for answers in given)
            return read(keys, cases, self.node(depth - 1, left))
        return STOP

    def target(self):
        kind = self.chance.choice(["source", "made", "made", "made", "key"])
        if kind == "source":
            outputs = [output for output in self.OUTPUTS if self.chance.random() < 0.7]
            return Source({output: self.chance.choice(self.TEXTS) for output in outputs})
        recipe = self.chance.choice(self.TEXTS) if kind == "made" else self.key()
        return Made(recipe, self.chance.choice(self.arguments))

    def workshop(self):
        return Workshop({name: TreeRecipe(self.node(5, self.OUTPUTS)) for name in self.TEXTS[:3]})

    def project(self):
        names = [name for name in self.TARGETS if self.chance.random() < 0.9]
        return Project({name: self.target() for name in names})


class Layers(World):
    """Worlds in which a target reads only what stands ahead of it: nearly no rings, and other reads for other answers."""

    TARGETS, OUTPUTS, TEXTS = ["a", "b", "c", "d", "e", "f"], ["x", "y"], ["0", "1", "2"]
    KEYS = list(itertools.product(TARGETS, OUTPUTS))

    def key(self):
        return self.chance.choice(self.ahead), self.chance.choice(self.OUTPUTS)

    def workshop(self):
        recipes = {}
        for at, name in enumerate(self.TARGETS[1:], 1):
            self.ahead = self.TARGETS[:at]
            recipes[name] = TreeRecipe(read((self.key(),), tuple(
                ((text,), self.node(4, self.OUTPUTS)) for text in self.TEXTS), self.node(3, self.OUTPUTS)))
        self.ahead = self.TARGETS
        return Workshop(recipes)

    def project(self):
        source = Source({output: self.chance.choice(self.TEXTS) for output in self.OUTPUTS})
        return Project({"a": source, **{name: Made(name) for name in self.TARGETS[1:]}})
