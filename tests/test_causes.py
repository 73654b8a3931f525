"""Causes: points 9, 11, 12, 14 and 16, and the interface of stage 9 under this file."""

import itertools
import random
import unittest

from farenough.causes import causes, swayed, way_to
from farenough.engine import Engine
from farenough.errors import NotCause, NotFresh, NotSettled, Stuck
from farenough.projects import Made, Project, Source
from farenough.recipes import TreeRecipe
from farenough.records import Record
from farenough.walks import need, walk
from farenough.workshops import Workshop
from plain import Plain
from samples import STOP, at, put, read, reads, write
from worlds import World

A, B = ("src", "a"), ("src", "b")
NY = ("n", "y")
UP = TreeRecipe(read((A,), (), write("x", ((1, 0),))))
PAIR = TreeRecipe(read((("m", "x"), B), (), write("y", ((1, 0), (1, 1)))))


def plain_of(project, record):
    return Plain(project, dict(record.steps()).get)


def is_made(project, name):
    return name in project and isinstance(project[name], Made)


class CausesCase(unittest.TestCase):

    def setUp(self):
        self.project = Project({"src": Source({"a": "1", "b": "2"}), "m": Made("up"), "n": Made("pair")})
        engine = Engine(Workshop({"up": UP, "pair": PAIR}))
        engine.ask(self.project, NY)
        self.record = engine.record

    def following(self, project, plain, item):
        """What an item of a way may be followed by."""
        name, output = item
        keys = []
        if is_made(project, name):
            if isinstance(project[name].recipe, tuple):
                keys.append(project[name].recipe)
            for _, step in plain.way_to(name, [output]):
                keys.extend(step[1] if step[0] == "read" else ())
        return keys

    def least_way(self, project, record, key, cause):
        """A search layer by layer: all ways of a length, then those that are one longer."""
        plain = plain_of(project, record)
        ways, seen = [(key,)], {key}
        while not any(way[-1] == cause for way in ways):
            longer = [(*way, other) for way in ways for other in self.following(project, plain, way[-1])]
            ways = sorted({way for way in longer if way[-1] not in seen})
            seen |= {way[-1] for way in ways}
        return min(way for way in ways if way[-1] == cause)

    def sways(self, project, record, key, cause, text):
        """The record that is told for these arguments, if it is one by the words of the interface."""
        told = swayed(project, record, key, cause, text)
        self.assertIs(type(told), Record)
        self.assertTrue(need(project, record, key).is_within(told))
        self.assertEqual(Record(list(told.steps())), told)
        other = plain_of(project.write(*cause, text), told)
        self.assertTrue(other.is_settled(key))
        self.assertNotEqual(("settled", other.answer(key)), walk(project, record, key))
        self.assertEqual(swayed(project, record, key, cause, text), told)
        return told


class CausesTest(CausesCase):

    def test_the_example(self):
        self.assertEqual(causes(self.project, self.record, NY), (A, B))
        self.assertEqual(causes(self.project, self.record, ("m", "x")), (A,))
        self.assertEqual(causes(project=self.project, record=self.record, key=NY), (A, B))

    def test_given_keys_are_their_own_causes(self):
        for key in [A, B, ("src", "c"), ("no", "x")]:
            self.assertEqual(causes(self.project, Record(), key), (key,))

    def test_missing_targets_and_outputs(self):
        project = Project({"src": Source({}), "m": Made("r")})
        record = Record([(at("r"), reads(("no", "x"), A, ("m", "w"))), (at("r", (None, None, "1")), put("x"))])
        with self.assertRaises(NotSettled):
            causes(project, record, ("m", "x"))
        record = Record([(at("r"), put("w")), (at("r", count=1), reads(("no", "x"), A, ("m", "w"))),
                         (at("r", (None, None, "1")), put("x"))])
        self.assertEqual(causes(project, record, ("m", "x")), (("no", "x"), A))

    def test_a_made_target_without_causes(self):
        record = Record([(at("r"), put("x")), (at("r", count=1), reads(A))])
        self.assertEqual(causes(Project({"m": Made("r"), "src": Source({})}), record, ("m", "x")), ())

    def test_keys_of_made_targets_that_are_none_are_no_causes(self):
        rows = [(at("r"), reads(("o", "z"))), (at("r", (None,)), put("x")), (at("o"), reads(B)), (at("o", ("2",)), STOP)]
        project = self.project.put("m", Made("r")).put("o", Made("o"))
        self.assertEqual(causes(project, Record(rows), ("m", "x")), (B,))
        self.assertEqual(causes(project, Record(rows), ("o", "z")), (B,))

    def test_recipe_keys(self):
        project = self.project.put("m", Made(A)).put("o", Made(("m", "x"))).put("p", Made(("no", "x")))
        record = Record([(at("1"), put("x", "r")), (at("r"), put("y"))])
        self.assertEqual(causes(project, record, ("m", "x")), (A,))
        self.assertEqual(causes(project, record, ("o", "y")), (A,))
        self.assertEqual(causes(project, record, ("p", "y")), (("no", "x"),))

    def test_only_what_is_read_ahead(self):
        record = Record([(at("r"), reads(A)), (at("r", ("1",)), put("x")), (at("r", ("1",), count=1), reads(B)),
                         (at("r", ("1",), ("2",)), put("y"))])
        project = self.project.put("m", Made("r"))
        self.assertEqual(causes(project, record, ("m", "x")), (A,))
        self.assertEqual(causes(project, record, ("m", "y")), (A, B))

    def test_open_and_stuck_keys(self):
        ring = Record([(at("r"), reads(("m", "x")))])
        for project, record in [(self.project, Record()), (self.project.put("m", Made("r")), ring)]:
            for asked in [causes, lambda *told: way_to(*told, ("no", "no")), lambda *told: swayed(*told, A, "1")]:
                with self.assertRaises(NotSettled) as caught:
                    asked(project, record, ("m", "x"))
                self.assertEqual(caught.exception.key, ("m", "x"))


class WayTest(CausesCase):

    def test_the_example(self):
        self.assertEqual(way_to(self.project, self.record, NY, A), (NY, ("m", "x"), A))
        self.assertEqual(way_to(self.project, self.record, NY, B), (NY, B))
        self.assertEqual(way_to(project=self.project, record=self.record, key=NY, cause=B), (NY, B))

    def test_the_key_itself(self):
        for key in [A, ("no", "x")]:
            self.assertEqual(way_to(self.project, Record(), key, key), (key,))

    def test_no_cause(self):
        for cause in [("src", "c"), ("m", "x"), NY, ("no", "no")]:
            with self.assertRaises(NotCause) as caught:
                way_to(self.project, self.record, NY, cause)
            self.assertEqual(caught.exception.cause, cause)

    def test_the_least_of_several_shortest_ones(self):
        rows = [(at("top"), reads(("c", "x"), ("b", "x"), ("b", "w")))]
        for name in "bc":
            rows += [(at(name), put("w")), (at(name, count=1), reads(A)), (at(name, ("1",)), put("x"))]
        record = Record(rows + [(at("top", ("1", "1", "1")), put("x"))])
        project = Project({"src": Source({"a": "1"}), "b": Made("b"), "c": Made("c"), "t": Made("top")})
        self.assertEqual(way_to(project, record, ("t", "x"), A), (("t", "x"), ("b", "x"), A))
        # The write of b.w comes ahead of the read, but the whole run of b counts for b.v, which is None.
        rows = [(at("top"), reads(("b", "w"), ("b", "v"), ("b", "x"))), (at("top", ("1", None, "1")), put("x")),
                (at("b", ("1",), count=1), STOP)] + rows[1:4]
        self.assertEqual(way_to(project, Record(rows), ("t", "x"), A), (("t", "x"), ("b", "v"), A))

    def test_a_recipe_key_is_a_step_of_a_way(self):
        project = Project({"src": Source({"a": "r"}), "m": Made(A), "n": Made("s")})
        record = Record([(at("r"), put("x")), (at("s"), reads(("m", "x"))), (at("s", ("1",)), put("x"))])
        self.assertEqual(way_to(project, record, ("n", "x"), A), (("n", "x"), ("m", "x"), A))

    def test_items_that_are_none_read_anywhere(self):
        rows = [(at("r"), reads(A)), (at("r", ("1",)), put("x")), (at("r", ("1",), count=1), reads(B)),
                (at("r", ("1",), ("2",)), STOP)]
        project = self.project.put("m", Made("r"))
        self.assertEqual(way_to(project, Record(rows), ("m", "z"), B), (("m", "z"), B))
        with self.assertRaises(NotCause):
            way_to(project, Record(rows), ("m", "x"), B)


class SwayedTest(CausesCase):

    def test_the_example(self):
        for cause in (A, B):
            told = self.sways(self.project, self.record, NY, cause, "new")
            self.assertGreater(len(told), 4)
        named = {"project": self.project, "record": self.record, "key": NY, "cause": A, "text": "new"}
        self.assertEqual(swayed(**named), swayed(self.project, self.record, NY, A, "new"))

    def test_a_key_that_is_its_own_cause(self):
        for key in [A, ("src", "c"), ("no", "x")]:
            self.sways(self.project, self.record, key, key, "new")

    def test_a_key_that_is_none(self):
        rows = [(at("r"), reads(A)), (at("r", ("1",)), STOP)]
        self.sways(self.project.put("m", Made("r")), Record(rows), ("m", "x"), A, "")

    def test_missing_targets_and_outputs(self):
        project = Project({"src": Source({}), "m": Made("r")})
        record = Record([(at("r"), reads(("no", "x"), A, ("no", "y"))), (at("r", (None, None, None)), put("x"))])
        for cause in [("no", "x"), A, ("no", "y")]:
            self.sways(project, record, ("m", "x"), cause, "new")

    def test_recipe_keys(self):
        project = self.project.put("m", Made(A))
        record = Record([(at("1"), put("x", "r"))])
        told = self.sways(project, record, ("m", "x"), A, "new")
        self.assertIn(at("new"), told)

    def test_the_order_of_the_errors(self):
        with self.assertRaises(NotSettled) as caught:
            swayed(self.project, Record(), NY, ("no", "no"), "1")
        self.assertEqual(caught.exception.key, NY)
        with self.assertRaises(NotCause) as caught:
            swayed(self.project, self.record, NY, ("no", "no"), "1")
        self.assertEqual(caught.exception.cause, ("no", "no"))
        with self.assertRaises(NotFresh) as caught:
            swayed(self.project, self.record, NY, A, "1")
        self.assertEqual(caught.exception.words, "1")

    def test_each_place_at_which_a_text_may_occur(self):
        # Every text stands at one place only.
        project = Project({"src": Source({"a": "given", "c": "idle"}), "m": Made("rec", ["arg"]), "key": Made(("src", "k")),
                           "n": Made("other", ("spare",))})
        rows = [(at("rec", arguments=("arg",)), reads(A)), (at("rec", ("given",), arguments=("arg",)), put("w", "mid")),
                (at("rec", ("given",), arguments=("arg",), count=1), put("x", "end"))]
        record = Record(rows + [(at("rec", ("given",), arguments=("arg",), count=2), put("y", "later"))])
        key = ("m", "x")
        for text in ["rec", "arg", "given", "mid", "end", "idle", "other", "spare"]:
            with self.assertRaises(NotFresh, msg=text) as caught:
                swayed(project, record, key, A, text)
            self.assertEqual(caught.exception.words, text)
        for text in ["later", "x", "w", "src", "a", "m", "stop", "write", "en", "", "k", "key"]:
            self.sways(project, record, key, A, text)

    def test_places_of_a_need_that_are_not_in_the_project(self):
        # The recipe name and the answer come from another target.
        project = Project({"src": Source({"a": "1"}), "o": Made("o"), "m": Made(("o", "x"))})
        record = Record([(at("o"), put("x", "named")), (at("named"), reads(A)), (at("named", ("1",)), put("x", "end")),
                         (at("named", ("7",)), put("x", "apart"))])
        for text in ["named", "1", "end", "o"]:
            with self.assertRaises(NotFresh):
                swayed(project, record, ("m", "x"), A, text)
        for text in ["7", "apart"]:
            told = self.sways(project, record, ("m", "x"), A, text)
            self.assertNotEqual(told[at("named")], STOP)


class WorldsTest(CausesCase):

    def test_many_small_worlds(self):
        seen = {"causes": 0, "ways": 0, "swayed": 0, "stuck": 0, "open": 0}
        for seed in range(500):
            world = World(seed, [("q",)])
            workshop, project, chance = world.workshop(), world.project(), random.Random(seed)
            engine = Engine(workshop)
            for other in (project, world.project()):
                try:
                    engine.ask(other, world.key())
                except Stuck:
                    pass
            record = engine.record
            if record and seed % 3 == 0:
                record = record.without(chance.choice(list(record.steps()))[0])
            for key in chance.sample(World.KEYS, 4):
                self.check(project, record, key, seen)
        self.assertTrue(all(many > 20 for many in seen.values()), seen)

    def check(self, project, record, key, seen):
        plain = plain_of(project, record)
        if not plain.is_settled(key):
            seen[plain.state(key)] += 1
            with self.assertRaises(NotSettled):
                causes(project, record, key)
            return
        told = tuple(sorted(other for other in plain.demand(key) if not is_made(project, other[0])))
        self.assertEqual(causes(project, record, key), told)
        seen["causes"] += 1
        for cause in told:
            self.assertEqual(way_to(project, record, key, cause), self.least_way(project, record, key, cause))
            seen["ways"] += 1
            text = next(text for text in ["r0", "r2", "no", "fresh"] if self.is_fresh(project, record, key, text))
            self.sways(project, record, key, cause, text)
            seen["swayed"] += 1
        for text, cause in itertools.product(World.TEXTS, told[:1]):
            if not self.is_fresh(project, record, key, text):
                with self.assertRaises(NotFresh):
                    swayed(project, record, key, cause, text)

    def is_fresh(self, project, record, key, text):
        words = {walk(project, record, key)[1]}
        for (recipe, arguments, answers, _), step in need(project, record, key).steps():
            words |= {recipe, *arguments, *itertools.chain(*answers), *step[2:]}
        for name in project.names:
            target = project[name]
            words |= set(target.arguments) | {target.recipe} if isinstance(target, Made) else set(target.outputs.values())
        return text not in words


if __name__ == "__main__":
    unittest.main()
