"""Walks along a record: points 9, 10, 11, 12, 14 and 17."""

import random
import unittest

from farenough.engine import Engine
from farenough.projects import Made, Project, Source
from farenough.records import Record
from farenough.steps import in_order
from farenough.walkers import Walker
from farenough.walks import demand, need, open_places, walk
from plain import Plain
from samples import STOP, at, put, reads
from worlds import Layers, World

A, B = ("src", "a"), ("src", "b")
SRC = Source({"a": "1", "b": "2"})


class WalkTest(unittest.TestCase):

    def begin(self, targets, rows):
        self.project, self.record = Project(targets), Record(rows)

    def check(self, key, state, value):
        for _ in range(2):
            self.assertEqual(walk(self.project, self.record, key), (state, value))

    def stuck(self, key, *rings):
        state, ring = walk(self.project, self.record, key)
        self.assertEqual(state, "stuck")
        self.assertIn(ring, rings)
        plain = Plain(self.project, dict(self.record.steps()).get)
        self.assertTrue(plain.is_ring(ring, key))
        self.assertEqual(walk(self.project, self.record, key), (state, ring))

    def opens(self, keys, *places):
        self.assertEqual(open_places(self.project, self.record, keys), places)
        self.assertEqual(open_places(self.project, self.record, tuple(keys)), places)

    def demands(self, key, *keys):
        self.assertEqual(demand(self.project, self.record, key), keys)

    def needs(self, key, rows):
        self.assertEqual(need(self.project, self.record, key), Record(rows))


class SourceTest(WalkTest):

    def test_sources_and_what_is_missing(self):
        self.begin({"src": SRC}, [])
        for key, answer in [(A, "1"), (B, "2"), (("src", "c"), None), (("no", "a"), None)]:
            self.check(key, "settled", answer)
            self.opens([key])
            self.demands(key, key)
            self.needs(key, [])

    def test_a_source_that_is_read(self):
        rows = [(at("r"), reads(A, ("src", "c"), ("no", "x"))), (at("r", ("1", None, None)), put("x"))]
        self.begin({"src": SRC, "m": Made("r")}, rows)
        self.check(("m", "x"), "settled", "1")
        self.demands(("m", "x"), ("m", "x"), ("no", "x"), A, ("src", "c"))
        self.needs(("m", "x"), rows)


class Watched(Project):
    """A project that notes which targets are looked at."""

    def __init__(self, targets):
        super().__init__(targets)
        self.seen = []

    def __getitem__(self, name):
        self.seen.append(name)
        return super().__getitem__(name)


class DemandedTest(unittest.TestCase):

    def test_only_what_is_demanded_is_looked_at(self):
        targets = {f"t{number}": Made(f"r{number}") for number in range(60)}
        rows = [(at(f"r{number}"), put("x")) for number in range(2, 60)]
        rows += [(at("r1"), reads(("t7", "x"))), (at("r1", ("1",)), put("x"))]
        record = Record(rows)
        for asked in (walk, demand, need, lambda project, record, key: open_places(project, record, [key])):
            project = Watched(targets)
            asked(project, record, ("t1", "x"))
            self.assertEqual(sorted(project.seen), ["t1", "t7"])

    def test_a_run_is_led_only_as_far_as_it_is_demanded(self):
        record = Record([(at("r"), put("x")), (at("r", count=1), reads(("u", "x"))), (at("u"), put("x"))])
        project = Watched({"t": Made("r"), "u": Made("u")})
        self.assertEqual(walk(project, record, ("t", "x")), ("settled", "1"))
        self.assertEqual(project.seen, ["t"])
        self.assertEqual(walk(project, record, ("t", "y")), ("open", (at("r", ("1",)),)))
        self.assertEqual(need(project, record, ("t", "y")), record)


class SettledTest(WalkTest):

    def setUp(self):
        self.rows = [(at("r"), put("w")), (at("r", count=1), reads(A)), (at("r", ("1",)), put("x")),
                     (at("r", ("1",), count=1), reads(B)), (at("r", ("1",), ("2",)), put("y")),
                     (at("r", ("1",), ("2",), count=1), STOP)]
        self.begin({"src": SRC, "m": Made("r")}, self.rows)

    def test_each_output_needs_the_steps_up_to_its_write(self):
        for output, many, keys in [("w", 1, ()), ("x", 3, (A,)), ("y", 5, (A, B)), ("z", 6, (A, B))]:
            self.check(("m", output), "settled", None if output == "z" else "1")
            self.needs(("m", output), self.rows[:many])
            self.demands(("m", output), ("m", output), *keys)
            self.opens([("m", output)])

    def test_what_was_written_is_settled_where_the_run_is_open(self):
        for many in range(1, 6):
            self.begin({"src": SRC, "m": Made("r")}, self.rows[:many])
            here = [at("r", count=1), at("r", ("1",)), at("r", ("1",), count=1), at("r", ("1",), ("2",)),
                    at("r", ("1",), ("2",), count=1)][many - 1]
            for output, needed in [("w", 1), ("x", 3), ("y", 5), ("z", 6)]:
                if needed <= many:
                    self.check(("m", output), "settled", "1")
                    self.opens([("m", output)])
                else:
                    self.check(("m", output), "open", (here,))
                    self.opens([("m", output)], here)
                self.needs(("m", output), self.rows[:min(many, needed)])

    def test_the_empty_record(self):
        self.begin({"src": SRC, "m": Made("r", ("v",))}, [])
        self.check(("m", "x"), "open", (at("r", arguments=("v",)),))
        self.demands(("m", "x"), ("m", "x"))
        self.needs(("m", "x"), [])

    def test_other_answers_lead_off_the_record(self):
        self.begin({"src": Source({"a": "2"}), "m": Made("r")}, self.rows)
        self.check(("m", "w"), "settled", "1")
        self.check(("m", "x"), "open", (at("r", ("2",)),))
        self.demands(("m", "x"), ("m", "x"), A)
        self.needs(("m", "x"), self.rows[:2])

    def test_several_demanded_outputs_of_one_target(self):
        rows = self.rows + [(at("s"), reads(("m", "y"))), (at("s", ("1",)), reads(("m", "w"))),
                            (at("s", ("1",), ("1",)), put("x"))]
        self.begin({"src": SRC, "m": Made("r"), "n": Made("s")}, rows)
        self.check(("n", "x"), "settled", "1")
        self.needs(("n", "x"), self.rows[:5] + rows[6:])
        self.demands(("n", "x"), ("m", "w"), ("m", "y"), ("n", "x"), A, B)

    def test_a_demanded_output_that_is_never_written(self):
        rows = self.rows + [(at("s"), reads(("m", "w"), ("m", "z"))), (at("s", ("1", None)), put("x"))]
        self.begin({"src": SRC, "m": Made("r"), "n": Made("s")}, rows)
        self.check(("n", "x"), "settled", "1")
        self.needs(("n", "x"), rows)

    def test_targets_that_share_places(self):
        self.begin({"src": SRC, "m": Made("r"), "n": Made("r", ["v"]), "o": Made("r")}, self.rows)
        for name in "mo":
            self.check((name, "x"), "settled", "1")
            self.needs((name, "x"), self.rows[:3])
        self.check(("n", "x"), "open", (at("r", arguments=("v",)),))


class RecipeKeyTest(WalkTest):

    def test_settled(self):
        rows = [(at("r"), put("x")), (at("n"), put("x", "r")), (at("n", count=1), STOP)]
        self.begin({"src": SRC, "m": Made(("n", "x")), "n": Made("n")}, rows)
        self.check(("m", "x"), "settled", "1")
        self.demands(("m", "x"), ("m", "x"), ("n", "x"))
        self.needs(("m", "x"), rows[:2])

    def test_settled_as_none(self):
        rows = [(at("n"), STOP)]
        self.begin({"m": Made(("n", "x")), "n": Made("n")}, rows)
        self.check(("m", "x"), "settled", None)
        self.check(("m", "z"), "settled", None)
        self.needs(("m", "z"), rows)
        self.demands(("m", "z"), ("m", "z"), ("n", "x"))
        self.begin({"m": Made(("no", "x"))}, [])
        self.check(("m", "x"), "settled", None)
        self.needs(("m", "x"), [])

    def test_open(self):
        self.begin({"m": Made(("n", "x")), "n": Made("n")}, [])
        self.check(("m", "x"), "open", (at("n"),))
        self.demands(("m", "x"), ("m", "x"), ("n", "x"))

    def test_begun_and_open(self):
        rows = [(at("n"), put("x", ""))]
        self.begin({"m": Made(("n", "x"), ("v",)), "n": Made("n")}, rows)
        self.check(("m", "x"), "open", (at("", arguments=("v",)),))
        self.needs(("m", "x"), rows)


    def test_names_that_are_somewhat_too_long(self):
        rows = [(at("r"), put("x")), (at("longername"), put("longoutput", "r"))]
        self.begin({"m": Made(("longertarget", "longoutput")), "longertarget": Made("longername")}, rows)
        self.check(("m", "x"), "settled", "1")
        self.demands(("m", "x"), ("longertarget", "longoutput"), ("m", "x"))
        self.needs(("m", "x"), rows)


class StuckTest(WalkTest):

    def test_a_ring_of_one_key(self):
        rows = [(at("r"), put("w")), (at("r", count=1), reads(("m", "x")))]
        self.begin({"m": Made("r")}, rows)
        for output in "xy":
            self.stuck(("m", output), (("m", "x"),))
            self.opens([("m", output)])
            self.needs(("m", output), rows)
        self.check(("m", "w"), "settled", "1")
        self.demands(("m", "x"), ("m", "x"))
        self.demands(("m", "y"), ("m", "x"), ("m", "y"))

    def test_a_ring_of_recipe_keys(self):
        self.begin({"m": Made(("n", "x")), "n": Made(("m", "y"))}, [])
        self.stuck(("m", "x"), (("n", "x"), ("m", "y")), (("m", "y"), ("n", "x")))
        self.demands(("m", "x"), ("m", "x"), ("m", "y"), ("n", "x"))
        self.needs(("m", "x"), [])

    def test_stuck_although_others_are_open(self):
        rows = [(at("r"), reads(("open", "x"), ("ring", "x"))), (at("s"), reads(("ring", "x")))]
        self.begin({"m": Made("r"), "open": Made("o"), "ring": Made("s")}, rows)
        self.stuck(("m", "x"), (("ring", "x"),))
        self.opens([("m", "x")], at("o"))
        self.check(("open", "x"), "open", (at("o"),))
        self.stuck(("ring", "y"), (("ring", "x"),))
        self.opens([("ring", "y")])
        self.demands(("m", "x"), ("m", "x"), ("open", "x"), ("ring", "x"))
        self.needs(("m", "x"), rows)

    def test_the_first_ways_lead_to_open_targets(self):
        rows = [(at("r"), reads(("p", "x"), ("n", "x"))), (at("s"), reads(("o", "x"), ("p", "x"), ("m", "x"))),
                (at("p"), reads(("o", "x")))]
        self.begin({"m": Made("r"), "n": Made("s"), "o": Made("o"), "p": Made("p")}, rows)
        ring = (("n", "x"), ("m", "x"))
        for key in [("m", "x"), ("n", "x"), ("m", "y")]:
            self.stuck(key, ring, ring[::-1])
            self.opens([key], at("o"))
        self.check(("p", "x"), "open", (at("o"),))

    def test_open_where_no_wait_goes_round(self):
        rows = [(at("r"), reads(("n", "x"))), (at("s"), reads(("o", "x")))]
        self.begin({"m": Made("r"), "n": Made("s"), "o": Made("o")}, rows)
        for name in "mno":
            self.check((name, "x"), "open", (at("o"),))
        self.demands(("m", "x"), ("m", "x"), ("n", "x"), ("o", "x"))

    def test_targets_that_read_one_another_without_a_ring(self):
        rows = [(at("r"), put("w")), (at("r", count=1), reads(("n", "x"))), (at("s"), reads(("m", "w")))]
        self.begin({"m": Made("r"), "n": Made("s")}, rows)
        self.check(("m", "x"), "open", (at("s", ("1",)),))
        self.check(("n", "x"), "open", (at("s", ("1",)),))
        self.check(("m", "w"), "settled", "1")


class OpenPlacesTest(WalkTest):

    def setUp(self):
        rows = [(at("r"), reads(("n", "x"), ("o", "x"))), (at("p"), put("x")), (at("s"), reads(("s", "x")))]
        self.begin({"m": Made("r"), "n": Made("o", ("v",)), "o": Made("o"), "p": Made("p"), "s": Made("s"), "z": SRC},
                   rows)

    def test_several_keys(self):
        self.opens([("p", "y"), ("m", "x")], at("o"), at("o", arguments=("v",)), at("p", count=1))
        self.opens([("n", "x"), ("o", "y")], at("o"), at("o", arguments=("v",)))
        self.opens([("n", "x"), ("n", "y"), ("n", "x")], at("o", arguments=("v",)))

    def test_none(self):
        self.opens([])
        self.opens([("z", "a"), ("no", "x"), ("p", "x")])

    def test_stuck_ones_too(self):
        self.opens([("s", "x")])
        self.opens([("s", "x"), ("p", "y")], at("p", count=1))

    def test_the_place_of_a_settled_key_is_not_due(self):
        rows = [(at("r"), reads(("p", "x"), ("o", "x"))), (at("p"), put("x"))]
        self.begin({"m": Made("r"), "o": Made("o"), "p": Made("p")}, rows)
        self.opens([("m", "x")], at("o"))
        self.opens([("m", "x"), ("p", "y")], at("o"), at("p", count=1))

    def test_two_targets_at_one_place(self):
        self.begin({"m": Made("o"), "n": Made("o")}, [])
        self.opens([("m", "x"), ("n", "x")], at("o"))


class InterfaceTest(WalkTest):

    def test_what_is_passed_stays(self):
        rows = [(at("r"), reads(A)), (at("r", ("1",)), put("x"))]
        self.begin({"src": SRC, "m": Made("r")}, rows)
        keys = [("m", "y"), ("m", "x"), ("m", "x")]
        open_places(self.project, self.record, keys)
        self.assertEqual(keys, [("m", "y"), ("m", "x"), ("m", "x")])
        self.assertEqual(self.record, Record(rows))
        self.assertEqual(self.project, Project({"src": SRC, "m": Made("r")}))

    def test_by_names(self):
        self.begin({"src": SRC, "m": Made("r")}, [])
        named = {"record": self.record, "project": self.project}
        self.assertEqual(walk(key=("m", "x"), **named), ("open", (at("r"),)))
        self.assertEqual(open_places(keys=[("m", "x")], **named), (at("r"),))
        self.assertEqual(demand(key=("m", "x"), **named), (("m", "x"),))
        self.assertEqual(need(key=("m", "x"), **named), Record())

    def test_kinds_of_values(self):
        self.begin({"m": Made("r")}, [])
        for value in [walk(self.project, self.record, ("m", "x")), walk(self.project, self.record, ("m", "x"))[1],
                      open_places(self.project, self.record, [("m", "x")]), demand(self.project, self.record, A)]:
            self.assertIs(type(value), tuple)
        self.assertIs(type(need(self.project, self.record, A)), Record)


class ChanceTest(WalkTest):
    """Many small projects along many records, with a plain reading of the points beside them."""

    def test_many_projects(self):
        world, chance = World(11, [("r1",)]), random.Random(12)
        states = {"settled": 0, "stuck": 0, "open": 0}
        for _ in range(400):
            record = self.some_record(world, chance)
            for _ in range(2):
                self.compare(world.project(), record, chance, states)
        self.assertGreater(min(states.values()), 300)

    def some_record(self, world, chance):
        """What an engine has seen, perhaps without some places."""
        engine = Engine(world.workshop())
        for _ in range(3):
            engine.pursue(world.project(), [world.key(), world.key()])
        record = engine.record
        for _ in range(chance.randint(0, 3)):
            if record:
                record = record.without(chance.choice(list(record.steps()))[0])
        return record

    def compare(self, project, record, chance, states):
        plain = Plain(project, dict(record.steps()).get)
        self.project, self.record = project, record
        for key in World.KEYS:
            self.compare_key(plain, key)
            states[plain.state(key)] += 1
        keys = [chance.choice(World.KEYS) for _ in range(3)]
        self.opens(keys, *in_order(list(plain.open_places(*keys))))

    def compare_key(self, plain, key):
        places = in_order(list(plain.open_places(key)))
        state = plain.state(key)
        if state == "stuck":
            found, ring = walk(self.project, self.record, key)
            self.assertEqual(found, "stuck")
            self.assertTrue(plain.is_ring(ring, key))
        else:
            self.check(key, state, plain.answer(key) if state == "settled" else tuple(places))
        self.opens([key], *places)
        self.demands(key, *sorted(plain.demand(key)))
        self.needs(key, list(plain.need(key).items()))


class WalkerTest(unittest.TestCase):
    """A walker that was asked for more keys than those in question, and that goes on when steps are added."""

    def test_some_of_the_keys(self):
        for seed in range(300):
            world, chance = (World if seed % 2 else Layers)(seed, [("q",)]), random.Random(seed)
            workshop, project = world.workshop(), world.project()
            engine, known = Engine(workshop), {}
            walker = Walker(project, known, [world.key()])
            for _ in range(8):
                keys = [world.key() for _ in range(chance.randint(0, 3))]
                walker.want(keys)
                plain = Plain(project, known.get)
                self.assertEqual(sorted(walker.demanded_by(keys)), sorted(plain.demand(*keys)))
                self.assertEqual(walker.open_places(keys), in_order(list(plain.open_places(*keys))))
                self.assertEqual(walker.needed_by(keys), plain.need(*keys))
                for key in keys:
                    self.assertEqual(walker.is_settled(key), plain.is_settled(key))
                    self.assertEqual(walker.answer_of(key), plain.answer(key))
                for place, step in engine.pursue(project, keys[:1])[:chance.randint(0, 3)]:
                    known[place] = step
                engine = Engine(workshop, record=Record(list(known.items())))
                walker.go_on()


if __name__ == "__main__":
    unittest.main()
