"""Points 15, 18 and 20 over several modules: whatever the way, the answers and the records are the same."""

import random
import unittest

from farenough.causes import causes
from farenough.engine import Engine
from farenough.errors import Stuck
from farenough.keeping import least
from farenough.meaning import Meaning
from farenough.projects import Made, Project, Source
from farenough.records import Record
from farenough.walks import walk
from farenough.workers import far_end, shift
from worlds import Layers, World


def turned(project):
    """An equal project whose dicts were put together the other way round."""
    targets = {}
    for name in reversed(project.names):
        target = project[name]
        if isinstance(target, Source):
            target = Source(dict(reversed(list(target.outputs.items()))))
        else:
            target = Made(target.recipe, list(target.arguments))
        targets[name] = target
    return Project(targets)


class OneRecordTest(unittest.TestCase):

    def worlds(self, many):
        for seed in range(many):
            world = (World if seed % 2 else Layers)(seed, [("q",)])
            yield world.workshop(), world.project(), [world.key() for _ in range(3)], random.Random(seed)

    def asked(self, engine, project, keys):
        for key in keys:
            try:
                engine.ask(project, key)
            except Stuck:
                pass
        return engine.record

    def test_whatever_the_way(self):
        for workshop, project, keys, chance in self.worlds(200):
            record = self.asked(Engine(workshop), project, keys)
            self.assertEqual(self.asked(Engine(workshop), project, keys[::-1]), record)
            engine = Engine(workshop)
            engine.pursue(project, chance.sample(keys, 3))
            self.assertEqual(engine.record, record)
            engine = Engine(workshop)
            walks = [engine.steps(project, key) for key in keys]
            while walks:
                some = chance.choice(walks)
                if next(some, None) is None:
                    walks.remove(some)
            self.assertEqual(engine.record, record)
            for workers in (1, 2, 5, 12):
                times = {name: chance.randint(1, 9) for name in "bcdef"}
                told = shift(project, workshop, Record(), keys, workers=workers, times=times)
                self.assertEqual(told.record, record)

    def test_the_order_of_what_was_put_in(self):
        for workshop, project, keys, chance in self.worlds(100):
            engine, other = Engine(workshop), Engine(workshop)
            engine.pursue(project, keys)
            other.pursue(turned(project), keys[::-1])
            self.assertEqual(engine.news, other.news)
            rows = list(engine.record.steps())
            chance.shuffle(rows)
            record = Record(rows)
            for key in keys:
                self.assertEqual(walk(project, record, key), walk(turned(project), engine.record, key))
                if walk(project, record, key)[0] == "settled":
                    self.assertEqual(causes(project, record, key), causes(turned(project), engine.record, key))
            self.assertEqual(far_end(project, workshop, Record(), keys),
                             far_end(turned(project), workshop, Record(rows[:0]), keys[::-1]))

    def test_a_step_less_than_the_least_record(self):
        for workshop, project, keys, chance in self.worlds(150):
            engine = Engine(workshop)
            asks = []
            for key in keys:
                try:
                    engine.ask(project, key)
                    asks.append((project, key))
                except Stuck:
                    pass
            small = least(engine.record, asks)
            for place, _ in small.steps():
                for one, key in asks:
                    left = walk(one, small.without(place), key)[0]
                    needs = place in least(engine.record, [(one, key)])
                    self.assertEqual(left, "open" if needs else "settled")

    def test_answers_are_those_of_the_meaning(self):
        for workshop, project, keys, chance in self.worlds(100):
            meaning = Meaning(project, workshop)
            told = shift(project, workshop, Record(), keys, workers=3, guess=True)
            for key in keys:
                if meaning.is_settled(key):
                    self.assertEqual(told.answer(key), meaning.answer(key))
                else:
                    with self.assertRaises(Stuck):
                        told.answer(key)


if __name__ == "__main__":
    unittest.main()
