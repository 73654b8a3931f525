"""Papers: points 15 and 16."""

import random
import unittest

from farenough.engine import Engine
from farenough.errors import NotNeeded, NotSettled
from farenough.papers import Paper, paper
from farenough.projects import Made, Project, Source
from farenough.records import Record
from farenough.steps import is_place, is_step
from farenough.walks import need, walk
from plain import Plain
from samples import STOP, at, put
from worlds import World

A, B = ("src", "a"), ("src", "b")


class PaperCase(unittest.TestCase):

    def setUp(self):
        self.project = Project({"src": Source({"a": "1", "b": "2"}), "m": Made("r"), "n": Made("s"), "k": Made(("n", "x"))})
        self.rows = [(at("r"), put("w", "s")), (at("r", count=1), ("read", (A,))), (at("r", ("1",)), put("v")),
                     (at("r", ("1",), count=1), put("x", "r")), (at("r", ("1",), count=2), STOP)]
        self.others = [(at("s"), ("read", (("m", "x"), ("m", "w")))), (at("s", ("r", "s")), put("x", "r"))]
        self.record = Record(self.rows + self.others)

    def shows(self, project, record, key, place):
        """The paper for a place of a need; whether it holds by the words of point 16."""
        made = paper(project, record, key, place)
        self.assertIs(type(made), Paper)
        self.assertEqual(made.place, place)
        self.assertIs(type(made.counter), Record)
        self.assertTrue(record.without(place).is_within(made.counter))
        state, answer = walk(project, made.counter, key)
        self.assertEqual(state, "settled")
        self.assertNotEqual(("settled", answer), walk(project, record, key))
        plain = Plain(project, dict(made.counter.steps()).get)
        self.assertTrue(plain.is_settled(key))
        self.assertEqual(plain.answer(key), answer)
        for spot, step in made.counter.steps():
            self.assertTrue(is_place(spot) and is_step(step))
        self.assertEqual(Record(list(made.counter.steps())), made.counter)
        self.assertIs(made.holds(project, record, key), True)
        self.assertEqual(paper(project, record, key, place), made)
        return made


class PaperTest(PaperCase):

    def test_each_place_of_a_need(self):
        for key, many in [(("m", "w"), 1), (("m", "v"), 3), (("m", "x"), 4), (("m", "z"), 5), (("n", "x"), 6),
                          (("n", "z"), None), (("k", "x"), 6), (("k", "v"), 6)]:
            record = self.record
            if many is None:
                record = Record([*self.record.steps(), (at("s", ("r", "s"), count=1), STOP)])
            needed = need(self.project, record, key)
            self.assertEqual(len(needed), many or 7)
            for place, _ in needed.steps():
                self.shows(self.project, record, key, place)

    def test_the_step_is_a_stop(self):
        self.shows(self.project, self.record, ("m", "z"), at("r", ("1",), count=2))
        record = Record([(at("r"), STOP)])
        self.shows(self.project, record, ("m", "x"), at("r"))

    def test_the_step_is_a_write_of_another_output(self):
        made = self.shows(self.project, self.record, ("m", "x"), at("r", ("1",)))
        self.assertNotEqual(made.counter[at("r", ("1",))], put("v"))

    def test_the_answer_is_none(self):
        made = self.shows(self.project, self.record, ("m", "z"), at("r"))
        self.assertEqual(walk(self.project, self.record, ("m", "z")), ("settled", None))
        self.assertIs(type(walk(self.project, made.counter, ("m", "z"))[1]), str)

    def test_a_record_with_many_texts(self):
        rows = [(at("r"), ("read", (("n", "x"),)))] + [(at("r", (str(number),)), put("x")) for number in range(30)]
        rows += [(at("s"), put("x", "7"))] + [(at(str(number)), STOP) for number in range(30, 50)]
        for key in [("m", "x"), ("n", "x")]:
            for place, _ in need(self.project, Record(rows), key).steps():
                self.shows(self.project, Record(rows), key, place)

    def test_not_settled(self):
        rows = self.rows[:3]
        for key, place in [(("m", "x"), at("r")), (("n", "x"), at("r")), (("m", "z"), at("q"))]:
            with self.assertRaises(NotSettled) as caught:
                paper(self.project, Record(rows), key, place)
            self.assertEqual(caught.exception.key, key)
        ring = Record([(at("r"), ("read", (("m", "x"),)))])
        with self.assertRaises(NotSettled):
            paper(self.project, ring, ("m", "x"), at("r"))

    def test_not_needed(self):
        for key, spot in [(("m", "w"), at("r", count=1)), (("m", "x"), at("r", ("1",), count=2)), (("m", "w"), at("s")),
                          (("m", "w"), at("no")), (A, at("r")), (("no", "x"), at("r")), (("m", "x"), at("r", count=9))]:
            with self.assertRaises(NotNeeded) as caught:
                paper(self.project, self.record, key, spot)
            self.assertEqual(caught.exception.spot, spot)

    def test_equal(self):
        one = Paper(at("r"), Record([(at("r"), STOP)]))
        self.assertIs(one == Paper(at("r"), Record([(at("r"), STOP)])), True)
        self.assertIs(one == Paper(at("r", count=1), Record([(at("r"), STOP)])), False)
        self.assertIs(one == Paper(at("r"), Record()), False)
        for value in [None, at("r"), (at("r"), Record([(at("r"), STOP)])), Record([(at("r"), STOP)]), True]:
            self.assertIs(one == value, False)

    def test_properties(self):
        counter = Record([(at("r"), STOP)])
        made = Paper(place=at("r"), counter=counter)
        self.assertEqual(made.place, at("r"))
        self.assertEqual(made.counter, counter)
        with self.assertRaises(AttributeError):
            made.place = at("s")

    def test_interface(self):
        for name in ["holds", "__eq__", "place", "counter"]:
            self.assertIn(name, vars(Paper))
        made = paper(project=self.project, record=self.record, key=("m", "x"), place=at("r"))
        self.assertIs(made.holds(project=self.project, record=self.record, key=("m", "x")), True)
        self.assertEqual(self.record, Record(self.rows + self.others))


class HoldsTest(PaperCase):

    def holds(self, place, rows, right, key=("m", "x"), project=None, record=None):
        record = self.record if record is None else record
        made = Paper(place, Record(rows))
        self.assertIs(made.holds(project or self.project, record, key), right)

    def test_papers_made_by_hand(self):
        spot = at("r", ("1",), count=1)
        rows = self.rows[:3] + self.others
        self.holds(spot, rows + [(spot, put("x", "other"))], True)
        self.holds(spot, rows + [(spot, STOP)], True)
        self.holds(spot, rows + [(spot, put("y")), (at("r", ("1",), count=2), put("x", "2"))], True)
        self.holds(spot, rows + [(spot, STOP), (at("q"), STOP)], True)

    def test_the_same_answer(self):
        spot = at("r", ("1",), count=1)
        rows = self.rows[:3] + self.others
        self.holds(spot, rows + [(spot, put("x", "r"))], False)
        self.holds(spot, rows + [(spot, put("y")), (at("r", ("1",), count=2), put("x", "r"))], False)

    def test_the_key_is_not_settled_by_the_counter_record(self):
        spot = at("r", ("1",), count=1)
        self.holds(spot, self.rows[:3] + self.others, False)
        self.holds(spot, self.rows[:3] + self.others + [(spot, ("read", (("m", "x"),)))], False)

    def test_the_key_is_not_settled_by_the_record(self):
        spot = at("r", ("1",), count=1)
        for rows in [self.rows[:3], self.rows[:2], []]:
            self.holds(spot, self.rows[:3] + [(spot, put("x", "other"))], False, record=Record(rows))
        rows = self.rows[:2] + [(at("r", ("1",)), put("x", "other"))]
        self.holds(at("r", ("1",)), rows, False, record=Record(self.rows[:3]))

    def test_a_thinned_counter_record(self):
        spot = at("r", ("1",), count=1)
        for rows in [self.rows[:3], self.rows[:3] + self.others[:1]]:
            self.holds(spot, rows + [(spot, STOP)], False)
        self.holds(at("r", count=1), [(at("r"), STOP)], False)

    def test_a_counter_record_with_another_step(self):
        other = [(at("r"), put("w", "t")), (at("r", count=1), STOP)]
        self.holds(at("r", count=1), other + self.others, False)

    def test_the_record_itself(self):
        for place, _ in self.record.steps():
            self.holds(place, self.rows + self.others, False)

    def test_a_place_that_is_not_needed(self):
        for spot in [at("s"), at("r", ("1",), count=2), at("s", ("r", "s"))]:
            left = list(self.record.without(spot).steps())
            self.holds(spot, left + [(spot, STOP if spot[3] else put("z"))], False)

    def test_a_place_that_is_not_in_the_record(self):
        rows = [(at("r"), put("x", "other"))]
        self.holds(at("q"), rows, False)
        self.holds(at("r"), rows, False, record=Record(self.others[:1]))
        self.holds(at("r"), rows + self.others, True)
        self.holds(at("r", ("5",)), self.rows[:2] + [(at("r", ("5",)), STOP)] + self.others, False)

    def test_asked_with_another_record(self):
        made = paper(self.project, self.record, ("m", "x"), at("r", ("1",)))
        self.assertIs(made.holds(self.project, Record(self.rows), ("m", "x")), True)
        self.assertIs(made.holds(self.project, Record(self.rows[:3]), ("m", "x")), False)
        self.assertIs(made.holds(self.project, Record(), ("m", "x")), False)
        more = Record(self.rows + self.others + [(at("zz"), STOP)])
        self.assertIs(made.holds(self.project, more, ("m", "x")), False)

    def test_asked_with_another_project(self):
        made = paper(self.project, self.record, ("m", "x"), at("r", ("1",)))
        self.assertIs(made.holds(self.project.put("n", Made("q")), self.record, ("m", "x")), True)
        self.assertIs(made.holds(self.project.write("src", "a", "2"), self.record, ("m", "x")), False)
        self.assertIs(made.holds(self.project.put("m", Source({"x": "r"})), self.record, ("m", "x")), False)

    def test_asked_with_another_key(self):
        made = paper(self.project, self.record, ("m", "x"), at("r", ("1",)))
        for key, right in [(("m", "w"), False), (A, False), (("no", "x"), False)]:
            self.assertIs(made.holds(self.project, self.record, key), right)


class ChanceTest(PaperCase):
    """Many small projects: a paper for each place of a need, and none for the others."""

    def test_many_projects(self):
        world, chance, shown = World(31, [("r1",)]), random.Random(32), 0
        for _ in range(300):
            workshop = world.workshop()
            engine = Engine(workshop)
            for _ in range(3):
                engine.pursue(world.project(), [world.key(), world.key()])
            project = world.project()
            engine.pursue(project, World.KEYS[:6])
            record = engine.record
            for key in chance.sample(World.KEYS, 4):
                shown += self.compare(project, record, key)
        self.assertGreater(shown, 500)

    def compare(self, project, record, key):
        plain = Plain(project, dict(record.steps()).get)
        if not plain.is_settled(key):
            with self.assertRaises(NotSettled):
                paper(project, record, key, ("r0", (), (), 0))
            return 0
        needed = plain.need(key)
        for place, _ in record.steps():
            if place in needed:
                self.shows(project, record, key, place)
            else:
                with self.assertRaises(NotNeeded) as caught:
                    paper(project, record, key, place)
                self.assertEqual(caught.exception.spot, place)
        return len(needed)


if __name__ == "__main__":
    unittest.main()
