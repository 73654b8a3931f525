"""Points 15, 18 and 20 over several modules: whatever the way, the answers and the records are the same."""

import random
import unittest

from farenough.causes import causes, swayed, way_to
from farenough.changes import change_between
from farenough.engine import Engine
from farenough.errors import Conflict, Stuck
from farenough.futures import future
from farenough.histories import History, turning
from farenough.journals import Journal
from farenough.keeping import keep, least, price
from farenough.meaning import Meaning
from farenough.projects import Made, Project, Source
from farenough.recipes import TreeRecipe
from farenough.records import Record
from farenough.sessions import Session
from farenough.walks import need, walk
from farenough.workers import far_end, shift
from farenough.workshops import Workshop
from plain import Plain
from samples import read, write
from worlds import Layers, World


def turned(project):
    """An equal project whose dicts were put together the other way round."""
    targets = {}
    for name in reversed(project.names):
        target = project[name]
        if isinstance(target, Source):
            target = Source(dict(reversed(list(target.outputs.items()))))
        else:
            target = Made(target.recipe, list(target.arguments))
        targets[name] = target
    return Project(targets)


class OneRecordTest(unittest.TestCase):

    def worlds(self, many):
        for seed in range(many):
            world = (World if seed % 2 else Layers)(seed, [("q",)])
            yield world.workshop(), world.project(), [world.key() for _ in range(3)], random.Random(seed)

    def asked(self, engine, project, keys):
        for key in keys:
            try:
                engine.ask(project, key)
            except Stuck:
                pass
        return engine.record

    def test_whatever_the_way(self):
        for workshop, project, keys, chance in self.worlds(200):
            record = self.asked(Engine(workshop), project, keys)
            self.assertEqual(self.asked(Engine(workshop), project, keys[::-1]), record)
            engine = Engine(workshop)
            engine.pursue(project, chance.sample(keys, 3))
            self.assertEqual(engine.record, record)
            engine = Engine(workshop)
            walks = [engine.steps(project, key) for key in keys]
            while walks:
                some = chance.choice(walks)
                if next(some, None) is None:
                    walks.remove(some)
            self.assertEqual(engine.record, record)
            for workers in (1, 2, 5, 12):
                times = {name: chance.randint(1, 9) for name in "bcdef"}
                told = shift(project, workshop, Record(), keys, workers=workers, times=times)
                self.assertEqual(told.record, record)

    def test_the_order_of_what_was_put_in(self):
        for workshop, project, keys, chance in self.worlds(100):
            engine, other = Engine(workshop), Engine(workshop)
            engine.pursue(project, keys)
            other.pursue(turned(project), keys[::-1])
            self.assertEqual(engine.news, other.news)
            rows = list(engine.record.steps())
            chance.shuffle(rows)
            record = Record(rows)
            for key in keys:
                self.assertEqual(walk(project, record, key), walk(turned(project), engine.record, key))
                if walk(project, record, key)[0] == "settled":
                    self.assertEqual(causes(project, record, key), causes(turned(project), engine.record, key))
            self.assertEqual(far_end(project, workshop, Record(), keys),
                             far_end(turned(project), workshop, Record(rows[:0]), keys[::-1]))

    def test_a_step_less_than_the_least_record(self):
        for workshop, project, keys, chance in self.worlds(150):
            engine = Engine(workshop)
            asks = []
            for key in keys:
                try:
                    engine.ask(project, key)
                    asks.append((project, key))
                except Stuck:
                    pass
            small = least(engine.record, asks)
            for place, _ in small.steps():
                for one, key in asks:
                    left = walk(one, small.without(place), key)[0]
                    needs = place in least(engine.record, [(one, key)])
                    self.assertEqual(left, "open" if needs else "settled")

    def test_answers_are_those_of_the_meaning(self):
        for workshop, project, keys, chance in self.worlds(100):
            meaning = Meaning(project, workshop)
            told = shift(project, workshop, Record(), keys, workers=3, guess=True)
            for key in keys:
                if meaning.is_settled(key):
                    self.assertEqual(told.answer(key), meaning.answer(key))
                else:
                    with self.assertRaises(Stuck):
                        told.answer(key)


class JournalAndEngineTest(unittest.TestCase):

    def test_asks_behind_a_cut_in_any_order(self):
        for seed in range(120):
            world, chance = (World if seed % 2 else Layers)(seed, [("q",)]), random.Random(seed)
            workshop, projects = world.workshop(), [world.project() for _ in range(2)]
            asks = [(chance.choice(projects), world.key()) for _ in range(6)]
            engine, journal = Engine(workshop), Journal()
            for project, key in asks[:3]:
                for place, step in engine.steps(project, key):
                    self.assertIs(journal.add(place, step), True)
            journal = Journal(journal.text[:chance.randint(0, len(journal.text))])
            session = Session(workshop, projects[0], record=journal.record)
            other = Engine(workshop, record=journal.record)
            seen = journal.record
            for project, key in chance.sample(asks, 6):
                change = change_between(session.project, project)
                for name in change.names:
                    if name in project:
                        session.put(name, project[name])
                    else:
                        session.without(name)
                self.same_answer(Meaning(project, workshop), key, session.ask, lambda key: other.ask(project, key))
                seen = seen | need(project, session.record, key)
                self.assertEqual(session.record, seen)
                self.assertEqual(other.record, seen)
                told = shift(project, workshop, journal.record, [key], workers=chance.randint(1, 12))
                self.assertEqual(told.record, journal.record | need(project, seen, key))
                self.same_answer(Meaning(project, workshop), key, told.answer)

    def same_answer(self, meaning, key, *doors):
        for door in doors:
            if meaning.is_settled(key):
                self.assertEqual(door(key), meaning.answer(key))
            else:
                with self.assertRaises(Stuck) as caught:
                    door(key)
                self.assertTrue(caught.exception.ring)


class RingTest(unittest.TestCase):

    def test_each_door_tells_a_ring(self):
        one, two = ("p", "x"), ("q", "y")
        workshop = Workshop({"one": TreeRecipe(read((two,))), "two": TreeRecipe(write("w", (), read((("k", "z"), one)))),
                             "top": TreeRecipe(read((one, two, ("src", "a"))))})
        project = Project({"p": Made("one"), "q": Made("two"), "t": Made("top"), "k": Made(("src", "a"))})
        for key in [one, two, ("t", "x")]:
            engine = Engine(workshop)
            doors = [Meaning(project, workshop).answer, lambda key: engine.ask(project, key), lambda key: engine(project, key),
                     shift(project, workshop, Record(), [key], workers=2).answer, Session(workshop, project).ask,
                     lambda key: turning(engine, [project, project], key)]
            for door in doors:
                with self.assertRaises(Stuck) as caught:
                    door(key)
                self.assertIn(caught.exception.ring, [(one, two), (two, one)])
            self.assertEqual(set(walk(project, engine.record, key)[1]), {one, two})
            plain = Plain(project, dict(engine.record.steps()).get)
            self.assertTrue(plain.is_ring(walk(project, engine.record, key)[1], key))
            way = future(project, engine.record, key).way
            self.assertEqual((way[0], len(set(way))), (key, len(way) - 1))


class MergedTest(unittest.TestCase):

    def test_merged_versions_are_asked(self):
        for seed in range(60):
            world, chance = Layers(seed), random.Random(seed)
            workshop, project = world.workshop(), world.project()
            history, engine = History(project), Engine(workshop)
            for number in range(1, 12):
                if number % 3:
                    base = history[number - 1]
                    change = base.write("a", chance.choice("xyz"), chance.choice("012")) if chance.random() < 0.6 else \
                        base.put(chance.choice("def"), Made(chance.choice("bcd")))
                    history.commit(chance.choice(range(number)), change)
                else:
                    try:
                        history.merge(number - 1, number - 2)
                    except Conflict as caught:
                        self.assertTrue(caught.conflicts)
                        history.commit(0, project)
                key = world.key()
                meaning = Meaning(history[number], workshop)
                if meaning.is_settled(key):
                    self.assertEqual(engine.ask(history[number], key), meaning.answer(key))
                row = [history[version] for version in history.trunk(number)]
                if len(row) > 1 and all(Meaning(each, workshop).is_settled(key) for each in row):
                    at = turning(engine, row, key)
                    answers = [Meaning(each, workshop).answer(key) for each in row]
                    if at is None:
                        self.assertEqual(answers[0], answers[-1])
                    else:
                        self.assertEqual((answers[at - 1], answers[at] != answers[0]), (answers[0], True))


class LimitsTest(unittest.TestCase):

    def test_twelve_targets_and_runs_of_sixty_steps(self):
        recipes, targets = {}, {"t00": Source({"x": "v"})}
        for number in range(1, 12):
            node = write("x", ((1, 0), "."))
            for _ in range(58):
                node = read(((f"t{number - 1:02}", "x"),), (), node)
            recipes[f"r{number}"] = TreeRecipe(node)
            targets[f"t{number:02}"] = Made(f"r{number}")
        workshop, project, key = Workshop(recipes), Project(targets), ("t11", "x")
        engine = Engine(workshop)
        self.assertEqual(engine.ask(project, key), "v" + "." * 11)
        self.assertEqual((len(engine.record), engine.replays), (11 * 59, 0))
        journal = Journal()
        self.assertEqual(journal.keep(engine.record), 11 * 59)
        self.assertEqual(Journal(journal.text).record, engine.record)
        self.assertEqual(causes(project, engine.record, key), (("t00", "x"),))
        self.assertEqual(len(way_to(project, engine.record, key, ("t00", "x"))), 12)
        told = shift(project, workshop, Record(), [key], workers=12, guess=True)
        self.assertEqual((told.record, told.answer(key)), (engine.record, "v" + "." * 11))
        self.assertEqual(price(Record(), engine.record, [(project, key)]), (11 * 59, 0))
        self.assertEqual(len(keep(engine.record, [(project, key)], 400)), 6 * 59)

    def test_two_hundred_versions(self):
        workshop = Workshop({"r": TreeRecipe(read((("s", "a"),), (), read((("s", "b"),), (), write("x", ((2, 0),)))))})
        project = Project({"s": Source({"b": "0"}), "m": Made("r")})
        history = History(project)
        for number in range(1, 200):
            project = project.write("s", "a", str(number)).write("s", "b", "1" if number > 123 else "0")
            self.assertEqual(history.commit(number - 1, project), number)
        row = [history[number] for number in history.trunk(199)]
        engine = Engine(workshop)
        self.assertEqual(turning(engine, row, ("m", "x")), 124)
        self.assertLessEqual((len(engine.news) - 1) // 2, 2 + 8)
        self.assertEqual(history.base(150, 199), 150)

    def test_nodes_a_hundred_and_fifty_deep(self):
        node = write("x", ((150, 0),))
        for _ in range(150):
            node = read((("s", "a"),), ((("no",), ("stop",)),), node)
        workshop, project = Workshop({"r": TreeRecipe(node)}), Project({"s": Source({"a": "yes"}), "m": Made("r")})
        engine, key = Engine(workshop), ("m", "x")
        self.assertEqual(engine.ask(project, key), "yes")
        self.assertEqual(len(engine.record), 151)
        self.assertEqual(least(engine.record, [(project, key)]), engine.record)
        self.assertEqual(Meaning(project, workshop).answer(key), "yes")
        told = swayed(project, engine.record, key, ("s", "a"), "new")
        self.assertEqual(walk(project.write("s", "a", "new"), told, key)[0], "settled")
        journal = Journal()
        journal.keep(engine.record)
        self.assertEqual(Journal(journal.text).packed().record, engine.record)


if __name__ == "__main__":
    unittest.main()
