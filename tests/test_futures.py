"""Futures: points 10, 14 and 17, and the interface of stage 9 under this file."""

import random
import unittest

from farenough.engine import Engine
from farenough.errors import NotOpen
from farenough.futures import Future, Never, Open, Sure, come_to, future
from farenough.projects import Made, Project, Source
from farenough.recipes import TreeRecipe
from farenough.records import Record
from farenough.steps import is_place, is_step
from farenough.walks import walk
from farenough.workshops import Workshop
from plain import Plain
from samples import STOP, at, read, write
from worlds import World

A, B = ("src", "a"), ("src", "b")
ANY = [None, True, False, 0, 1, -1, "", "12", (), ("a",), ("n", "y"), ((("n", "y"),),), (1, 2), ((1, 2), (1, 2)),
       (("a", "b"), ("a", "b")), (None, None), ((((((((),),),),),),),), (True, False), ((("n", "y"), ("n", "y")), ("n", "y"))]


class FutureTest(unittest.TestCase):

    def same(self, told, project, record, key):
        """The future that is told for these arguments, each time, and it holds."""
        for _ in range(2):
            found = future(project, record, key)
            self.assertIs(type(found), type(told))
            self.assertEqual(found, told)
            self.assertIs(found.holds(project, record, key), True)
        self.assertIs(told.holds(project, record, key), True)

    def is_way(self, way, project, record, key):
        """Whether a way is one by the words of the interface."""
        plain = Plain(project, dict(record.steps()).get)
        self.assertIs(type(way), tuple)
        self.assertGreaterEqual(len(way), 2)
        self.assertEqual(way[0], key)
        self.assertEqual(way[:-1].count(way[-1]), 1)
        self.assertEqual(len(set(way[:-1])), len(way) - 1)
        for item, following in zip(way, way[1:]):
            self.assertFalse(plain.is_settled(item))
            self.assertFalse(plain.is_settled(following))
            self.assertFalse(plain.is_open(item[0]))
            self.assertIn(following, plain.awaited(item[0]))


class ExampleTest(FutureTest):

    def setUp(self):
        up = TreeRecipe(read((A,), (), write("x", ((1, 0),))))
        pair = TreeRecipe(read((("m", "x"), B), (), write("y", ((1, 0), (1, 1)))))
        self.project = Project({"src": Source({"a": "1", "b": "2"}), "m": Made("up"), "n": Made("pair")})
        engine = Engine(Workshop({"up": up, "pair": pair}))
        self.assertEqual(engine.ask(self.project, ("n", "y")), "12")
        self.record = engine.record
        self.assertEqual(len(self.record), 4)

    def test_sure(self):
        self.same(Sure("12"), self.project, self.record, ("n", "y"))
        self.same(Sure("1"), self.project, self.record, A)
        self.same(Sure(None), self.project, self.record, ("no", "x"))
        self.assertEqual(future(self.project, self.record, ("n", "y")).outcome, "12")

    def test_open(self):
        other = self.project.write("src", "a", "3")
        places = (at("up", ("3",)),)
        self.same(Open(places), other, self.record, ("n", "y"))
        self.assertEqual(future(other, self.record, ("n", "y")).places, places)
        self.same(Open((at("pair", ("1", "2"), count=1),)), self.project, self.record, ("n", "z"))

    def test_by_names(self):
        named = {"project": self.project, "record": self.record, "key": ("n", "y")}
        self.assertEqual(future(**named), Sure(outcome="12"))
        self.assertIs(future(**named).holds(**named), True)
        other = self.project.write("src", "a", "3")
        made = come_to(project=other, record=self.record, key=("n", "y"), answer="q")
        self.assertEqual(walk(other, made, ("n", "y")), ("settled", "q"))
        self.assertEqual(Open(places=()).places, ())
        self.assertEqual(Never(way=()).way, ())

    def test_classes(self):
        for kind, name in [(Sure, "outcome"), (Never, "way"), (Open, "places")]:
            self.assertTrue(issubclass(kind, Future))
            for value in ANY:
                self.assertEqual(vars(kind(value))[name], value)
            for method in ["holds", "__eq__"]:
                self.assertIn(method, vars(kind))
        self.assertIn("holds", vars(Future))

    def test_equal(self):
        for kind in [Sure, Never, Open]:
            for value in ANY:
                for other in ANY:
                    self.assertIs(kind(value) == kind(other), value == other)
                for another in [Sure, Never, Open]:
                    self.assertIs(kind(value) == another(value), kind is another)
                for plain in [value, None, Future(), (value,)]:
                    self.assertIs(kind(value) == plain, False)
        self.assertIs(Sure(0) == Sure(False), True)
        self.assertIs(Open((at("r", count=True),)) == Open((at("r", count=1),)), True)


class HoldsTest(FutureTest):

    def setUp(self):
        rows = [(at("r"), ("read", (("n", "x"), ("o", "x"), A))), (at("s"), ("write", "w", "1")),
                (at("s", count=1), ("read", (("m", "y"), ("m", "w")))), (at("t"), ("read", (("n", "x"), A))),
                (at("p"), ("write", "x", "1")), (at("z"), ("read", (("o", "x"), ("p", "y"))))]
        self.record = Record(rows)
        self.project = Project({"src": Source({"a": "1"}), "m": Made("r"), "n": Made("s"), "o": Made("open"), "p": Made("p"),
                                "q": Made("t"), "k": Made(("q", "v")), "z": Made("z")})

    def holds(self, told, key, right):
        self.assertIs(told.holds(self.project, self.record, key), right, (vars(told), key))

    def test_sure(self):
        self.holds(Sure("1"), A, True)
        self.holds(Sure("1"), ("p", "x"), True)
        self.holds(Sure(None), ("src", "z"), True)
        self.holds(Sure(None), ("no", "z"), True)
        for value in ANY:
            self.holds(Sure(value), A, value == "1")
            self.holds(Sure(value), ("no", "z"), value is None)
            for key in [("m", "x"), ("o", "x")]:
                self.holds(Sure(value), key, False)
        self.holds(Sure(1), A, False)
        self.holds(Sure(("1",)), A, False)

    def test_open(self):
        here = (at("open"),)
        self.holds(Open(here), ("o", "x"), True)
        self.holds(Open((at("open"), at("p", count=1))), ("z", "x"), True)
        self.holds(Open((at("p", count=1), at("open"))), ("z", "x"), False)
        self.holds(Open((at("open"),)), ("z", "x"), False)
        self.holds(Open((at("open"), at("p", count=1), at("p", count=1))), ("z", "x"), False)
        for key in [("m", "x"), A, ("q", "x")]:
            self.holds(Open(here), key, False)
            self.holds(Open(()), key, False)
        for value in ANY:
            self.holds(Open(value), ("o", "x"), False)
            self.holds(Open((value,)), ("o", "x"), False)
            self.holds(Open((("open", (), (), value),)), ("o", "x"), type(value) is int and value == 0)
            self.holds(Open((("open", (), value, 0),)), ("o", "x"), value == ())
            self.holds(Open((("open", value, (), 0),)), ("o", "x"), value == ())
            self.holds(Open(((value, (), (), 0),)), ("o", "x"), False)

    def test_booleans_where_integers_stand(self):
        self.holds(Open((at("open", count=False),)), ("o", "x"), False)
        self.holds(Open((at("open"), at("p", count=True))), ("z", "x"), False)
        self.holds(Open((at("open", count=False), at("p", count=1))), ("z", "x"), False)

    def test_never(self):
        for key, way in [(("m", "x"), (("m", "x"), ("n", "x"), ("m", "y"), ("n", "x"))),
                         (("m", "y"), (("m", "y"), ("n", "x"), ("m", "y"))),
                         (("m", "x"), (("m", "x"), ("n", "x"), ("m", "w"), ("n", "x"))),
                         (("q", "x"), (("q", "x"), ("n", "x"), ("m", "y"), ("n", "x"))),
                         (("k", "x"), (("k", "x"), ("q", "v"), ("n", "x"), ("m", "w"), ("n", "x")))]:
            self.holds(Never(way), key, True)
            self.is_way(future(self.project, self.record, key).way, self.project, self.record, key)
            self.assertIs(future(self.project, self.record, key).holds(self.project, self.record, key), True)
            for other in [A, ("o", "x"), ("z", "x"), ("p", "x"), ("n", "x"), ("n", "w"), ("m", "v")]:
                if other != key:
                    self.holds(Never(way), other, False)

    def test_each_condition_broken_once(self):
        way = (("m", "x"), ("n", "x"), ("m", "y"), ("n", "x"))
        for broken in [(), way[:1], way[:2], way[:3], way[1:], list(way), (*way, ("m", "y")), (*way, ("n", "x")),
                       (("m", "x"), ("m", "x")), (("m", "x"), ("n", "x"), ("n", "x")), (("m", "x"), *way),
                       (("m", "x"), ("n", "x"), ("m", "y"), ("m", "y")), (("m", "x"), ("n", "x"), ("m", "y"), ("m", "x")),
                       (("m", "x"), ("o", "x"), ("m", "y"), ("o", "x")), (("m", "x"), A, ("m", "x")),
                       (("m", "x"), ("n", "x"), ("m", "v"), ("n", "x")), (("m", "x"), ("n", "w"), ("m", "y"), ("n", "w")),
                       (("m", "x"), ("n", "z"), ("m", "y"), ("n", "z")), (("m", "z"), ("n", "x"), ("m", "y"), ("n", "x")),
                       (("m", "x"), ("n", "x"), ("m", "y"), ("n", "x"), ("m", "w"), ("n", "x")),
                       (("m", "x"), ("n", "x"), ("m", "y"), ["n", "x"]), (("m", "x"), ("n", "x"), ("m", "y"), "nx")]:
            self.holds(Never(broken), ("m", "x"), False)
        for value in ANY:
            self.holds(Never(value), ("m", "x"), False)
            for place in range(len(way)):
                self.holds(Never((*way[:place], value, *way[place + 1:])), ("m", "x"), False)
                self.holds(Never((*way[:place], (way[place][0], value), *way[place + 1:])), ("m", "x"), False)
                self.holds(Never((*way[:place], (value, way[place][1]), *way[place + 1:])), ("m", "x"), False)

    def test_an_item_that_is_written(self):
        self.holds(Never((("n", "w"), ("m", "y"), ("n", "x"), ("m", "y"))), ("n", "w"), False)

    def test_a_way_that_comes_to_a_target_twice(self):
        self.holds(Never((("n", "z"), ("m", "w"), ("n", "x"), ("m", "y"), ("n", "x"))), ("n", "z"), True)
        self.holds(Never((("n", "z"), ("m", "w"), ("n", "x"), ("m", "w"))), ("n", "z"), True)

    def test_a_ring_of_one_key(self):
        project, record = Project({"m": Made("r")}), Record([(at("r"), ("read", (("m", "x"),)))])
        self.same(Never((("m", "x"), ("m", "x"))), project, record, ("m", "x"))
        self.same(Never((("m", "y"), ("m", "x"), ("m", "x"))), project, record, ("m", "y"))
        self.assertIs(Never((("m", "x"),)).holds(project, record, ("m", "x")), False)
        self.assertIs(Never((("m", "x"),) * 3).holds(project, record, ("m", "x")), False)

    def test_a_bare_future(self):
        self.assertIs(Future().holds(self.project, self.record, A), False)


class ComeToTest(FutureTest):

    def comes_to(self, project, record, key, answer):
        made = come_to(project, record, key, answer)
        self.assertIs(type(made), Record)
        self.assertTrue(record.is_within(made))
        self.assertEqual(walk(project, made, key), ("settled", answer))
        for place, step in made.steps():
            self.assertTrue(is_place(place) and is_step(step))
        self.assertEqual(Record(list(made.steps())), made)
        plain = Plain(project, dict(made.steps()).get)
        self.assertTrue(plain.is_settled(key))
        self.assertEqual(plain.answer(key), answer)
        self.assertEqual(come_to(project, record, key, answer), made)
        return made

    def test_answers(self):
        project = Project({"src": Source({"a": "1"}), "m": Made("r"), "n": Made("s"), "k": Made(("n", "x"), ("v",))})
        rows = [(at("r"), ("write", "w", "0")), (at("s"), ("read", (("m", "x"), A)))]
        rows += [(at("s", (str(number), "1")), STOP) for number in range(20)]
        for answer in [None, "", "0", "1", "a", "~" * 400]:
            for key in [("m", "x"), ("n", "x"), ("n", "y"), ("k", "x")]:
                self.comes_to(project, Record(rows), key, answer)
                self.comes_to(project, Record(rows[:2]), key, answer)
                self.comes_to(project, Record(), key, answer)

    def test_names_of_recipes_that_were_seen(self):
        project = Project({"m": Made("r"), "k": Made(("m", "x"))})
        rows = [(at(str(number)), STOP) for number in range(12)]
        for answer in [None, "3"]:
            self.comes_to(project, Record(rows), ("k", "x"), answer)

    def test_recipe_keys_that_are_settled_one_behind_the_other(self):
        """A run must not come to the places that are added for another one."""
        project = Project({"a": Made(("b", "x")), "b": Made("r"), "c": Made(("a", "y")), "d": Made("s")})
        rows = [(at("r"), ("read", (("d", "x"),)))]
        for record in [Record(rows), Record()]:
            for answer in [None, "", "0", "1", "7"]:
                for key in [("c", "y"), ("c", "x"), ("a", "y"), ("a", "x")]:
                    self.comes_to(project, record, key, answer)

    def test_names_of_recipes_that_come_from_elsewhere(self):
        """The recipe of `b` is named by a text that the new steps must not use again."""
        rows = [(at("r"), ("read", (("b", "y"),)))]
        project = Project({"c": Made(("d", "x")), "d": Made("r")})
        seen = rows + [(at("w"), ("write", "x", "1"))]
        for answer in [None, "", "0", "7"]:
            for recipe in ["0", "1", "2"]:
                self.comes_to(project.put("b", Made(recipe)), Record(rows), ("c", "y"), answer)
            other = project.put("b", Made(("e", "a"))).write("e", "a", "1")
            self.comes_to(other, Record(rows), ("c", "y"), answer)
            other = project.put("b", Made(("w", "x"))).put("w", Made("w"))
            self.comes_to(other, Record(seen), ("c", "y"), answer)

    def test_several_open_targets(self):
        project = Project({"a": Made("r"), "b": Made("s"), "c": Made("s", ("1",)), "d": Made("s"), "e": Made(("c", "y"))})
        rows = [(at("r"), ("read", (("b", "x"), ("c", "y"), ("d", "x"), ("e", "z"))))]
        for answer in [None, "", "9"]:
            self.comes_to(project, Record(rows), ("a", "x"), answer)
        for key in [("b", "x"), ("d", "y"), ("e", "z")]:
            self.comes_to(project, Record(rows), key, "7")

    def test_two_targets_at_one_place(self):
        project = Project({"a": Made("r"), "b": Made("s"), "c": Made("s"), "d": Made("t")})
        rows = [(at("r"), ("read", (("d", "x"),))), (at("s"), ("read", (("d", "x"),))), (at("t"), ("write", "v", "0"))]
        for answer in [None, "5"]:
            for key in [("a", "x"), ("b", "x"), ("c", "y")]:
                self.comes_to(project, Record(rows), key, answer)
        both = [(at("r"), ("read", (("b", "x"), ("c", "x")))), (at("s"), ("write", "v", "0"))]
        self.comes_to(project, Record(both), ("a", "x"), None)

    def test_beside_stuck_keys(self):
        project = Project({"a": Made("r"), "b": Made("s"), "c": Made("t")})
        rows = [(at("r"), ("read", (("a", "x"), ("c", "x")))), (at("s"), ("read", (("c", "x"),)))]
        self.comes_to(project, Record(rows), ("b", "x"), "1")
        self.comes_to(project, Record(rows), ("c", "x"), None)
        self.not_open(project, Record(rows), ("a", "x"))

    def not_open(self, project, record, key):
        for answer in [None, "1"]:
            with self.assertRaises(NotOpen) as caught:
                come_to(project, record, key, answer)
            self.assertEqual(caught.exception.key, key)

    def test_not_open(self):
        project = Project({"src": Source({"a": "1"}), "m": Made("r")})
        for record in [Record(), Record([(at("r"), STOP)])]:
            for key in [A, ("src", "z"), ("no", "x")]:
                self.not_open(project, record, key)
        self.not_open(project, Record([(at("r"), STOP)]), ("m", "x"))
        self.not_open(project, Record([(at("r"), ("write", "x", "1"))]), ("m", "x"))
        self.comes_to(project, Record([(at("r"), ("write", "x", "1"))]), ("m", "y"), "1")

    def test_what_is_passed_stays(self):
        project, rows = Project({"m": Made("r")}), [(at("s"), STOP)]
        record = Record(rows)
        come_to(project, record, ("m", "x"), "1")
        self.assertEqual(record, Record(rows))
        self.assertEqual(project, Project({"m": Made("r")}))


class ChanceTest(ComeToTest):

    def test_many_projects(self):
        """Many small projects along many records: the state of each key, and records that lead to any answer."""
        world, chance = World(41, [("r1",)]), random.Random(42)
        found = {Sure: 0, Never: 0, Open: 0}
        for _ in range(250):
            engine = Engine(world.workshop())
            for _ in range(3):
                engine.pursue(world.project(), [world.key(), world.key()])
            record = engine.record
            for _ in range(chance.randint(0, 3)):
                if record:
                    record = record.without(chance.choice(list(record.steps()))[0])
            project = world.project()
            plain = Plain(project, dict(record.steps()).get)
            for key in World.KEYS:
                told = future(project, record, key)
                found[type(told)] += 1
                self.assertIs(told.holds(project, record, key), True)
                self.compare(plain, told, project, record, key, chance)
        self.assertGreater(min(found.values()), 100)

    def compare(self, plain, told, project, record, key, chance):
        state = plain.state(key)
        self.assertIs(type(told), {"settled": Sure, "stuck": Never, "open": Open}[state])
        if state == "settled":
            self.assertEqual(told.outcome, plain.answer(key))
        elif state == "stuck":
            self.is_way(told.way, project, record, key)
        else:
            self.assertEqual(("open", told.places), walk(project, record, key))
            self.comes_to(project, record, key, chance.choice([None, "", "0", "r1", "no"]))
        if state != "open":
            self.not_open(project, record, key)


if __name__ == "__main__":
    unittest.main()
