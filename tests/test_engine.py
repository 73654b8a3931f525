"""Engines: points 12, 14, 15 and 18, and the interface of stage 5."""

import random
import unittest

from farenough.engine import Engine
from farenough.errors import Stuck
from farenough.meaning import Meaning
from farenough.projects import Made, Project, Source
from farenough.recipes import TreeRecipe
from farenough.records import Record
from farenough.walks import need, open_places, walk
from farenough.workshops import Workshop
from plain import Plain
from samples import STOP, at, put, read, write
from worlds import World

A, B = ("src", "a"), ("src", "b")
UP = TreeRecipe(read((A,), (), write("x", ((1, 0),))))
PAIR = TreeRecipe(read((("m", "x"), B), (), write("y", ((1, 0), (1, 1)))))
RING = TreeRecipe(write("w", ("1",), read((("s", "x"),), (), write("x"))))
# Two ways behind one read, a write on each, and another read.
WAYS = TreeRecipe(write("v", ("0",), read((A,), ((("1",), write("x", ("one",))), (("2",), STOP)),
                                          write("x", ((1, 0),), read((B,), (), write("y"))))))


def sources(a="1", b="2"):
    return Source({"a": a, "b": b})


class EngineTest(unittest.TestCase):

    def setUp(self):
        self.workshop = Workshop({"up": UP, "pair": PAIR, "ring": RING, "ways": WAYS})
        self.project = Project({"src": sources(), "m": Made("up"), "n": Made("pair"), "s": Made("ring"),
                                "t": Made("ways")})
        self.engine = Engine(self.workshop)
        self.rows = [(at("pair"), ("read", (("m", "x"), B))), (at("up"), ("read", (A,))),
                     (at("up", ("1",)), put("x", "1")), (at("pair", ("1", "2")), put("y", "12"))]

    def counts(self, runs, replays, news):
        self.assertEqual(len(self.engine), runs)
        self.assertEqual(self.engine.replays, replays)
        self.assertEqual(len(self.engine.news), news)


class AskTest(EngineTest):

    def test_the_answer_of_the_meaning(self):
        self.assertEqual(self.engine.ask(self.project, ("n", "y")), "12")
        self.assertEqual(self.engine.news, tuple(self.rows))
        self.assertEqual(self.engine.record, Record(self.rows))

    def test_the_same_by_a_call(self):
        self.assertEqual(self.engine(self.project, ("n", "y")), "12")
        self.assertEqual(self.engine.news, tuple(self.rows))
        with self.assertRaises(Stuck):
            self.engine(self.project, ("s", "x"))

    def test_what_needs_no_step(self):
        for key, answer in [(A, "1"), (("src", "c"), None), (("no", "x"), None)]:
            self.assertEqual(self.engine.ask(self.project, key), answer)
        self.assertEqual(self.engine.news, ())
        self.assertEqual(self.engine.record, Record())
        self.counts(0, 0, 0)

    def test_the_same_ask_again_takes_no_step(self):
        for _ in range(3):
            self.assertEqual(self.engine.ask(self.project, ("n", "y")), "12")
            self.counts(2, 0, 4)
            self.assertEqual(self.engine.ask(self.project, ("m", "x")), "1")
            self.counts(2, 0, 4)

    def test_an_answer_that_is_none(self):
        self.assertIs(self.engine.ask(self.project, ("m", "z")), None)
        self.assertEqual(self.engine.news, ((at("up"), ("read", (A,))), (at("up", ("1",)), put("x", "1")),
                                            (at("up", ("1",), count=1), STOP)))
        self.counts(0, 0, 3)

    def test_a_ring(self):
        with self.assertRaises(Stuck) as caught:
            self.engine.ask(self.project, ("s", "y"))
        self.assertEqual(caught.exception.ring, (("s", "x"),))
        rows = ((at("ring"), put("w", "1")), (at("ring", count=1), ("read", (("s", "x"),))))
        self.assertEqual(self.engine.news, rows)
        with self.assertRaises(Stuck):
            self.engine.ask(self.project, ("s", "y"))
        self.counts(1, 0, 2)
        self.assertEqual(self.engine.ask(self.project, ("s", "w")), "1")

    def test_a_stuck_key_whose_demand_has_open_targets(self):
        both = TreeRecipe(read((("s", "x"), ("n", "y"))))
        workshop = self.workshop.changed("both", both)
        engine = Engine(workshop)
        project = self.project.put("b", Made("both"))
        with self.assertRaises(Stuck) as caught:
            engine.ask(project, ("b", "x"))
        self.assertEqual(caught.exception.ring, (("s", "x"),))
        self.assertEqual(len(engine.record), 7)
        self.assertEqual(engine.record, need(project, engine.record, ("b", "x")))

    def test_always_the_first_of_the_open_places(self):
        many = TreeRecipe(read((("m", "x"), ("t", "y"), ("n", "y"), ("s", "w"))))
        project = self.project.put("z", Made("a"))
        engine = Engine(self.workshop.changed("a", many))
        engine.ask(project, ("z", "x"))
        record = Record()
        for place, step in engine.news:
            self.assertEqual(place, open_places(project, record, [("z", "x")])[0])
            record = record | Record(list(record.steps()) + [(place, step)])
        self.assertEqual(record, engine.record)
        self.assertEqual(open_places(project, record, [("z", "x")]), ())

    def test_the_project_changed_between_asks(self):
        self.engine.ask(self.project, ("n", "y"))
        project = self.project.write("src", "b", "3")
        self.assertEqual(self.engine.ask(project, ("n", "y")), "13")
        self.assertEqual(self.engine.news[4:], ((at("pair", ("1", "3")), put("y", "13")),))
        self.assertEqual(self.engine.ask(self.project, ("n", "y")), "12")
        self.counts(3, 1, 5)
        project = project.write("src", "a", "0").put("p", Made("pair"))
        self.assertEqual(self.engine.ask(project, ("p", "y")), "03")
        self.assertEqual(self.engine.ask(project, ("n", "y")), "03")
        self.assertEqual(len(self.engine.news), 7)

    def test_recipe_keys(self):
        project = self.project.write("src", "a", "up").put("k", Made(("m", "x"), ["v"]))
        self.assertEqual(self.engine.ask(project, ("k", "x")), "up")
        self.assertEqual([place for place, _ in self.engine.news],
                         [at("up"), at("up", ("up",)), at("up", arguments=("v",)), at("up", ("up",), arguments=("v",))])
        self.assertIs(self.engine.ask(project.write("src", "a", "no"), ("k", "x")), None)
        self.assertEqual(self.engine.news[-1], (at("no", arguments=("v",)), STOP))

    def test_an_engine_that_begins_with_a_record(self):
        for many in range(5):
            record = Record(self.rows[:many])
            engine = Engine(self.workshop, record=record)
            self.assertEqual(engine.record, record)
            self.assertEqual((len(engine), engine.replays, engine.news), (0, 0, ()))
            self.assertEqual(engine.ask(self.project, ("n", "y")), "12")
            self.assertEqual(engine.news, tuple(self.rows[many:]))
            self.assertEqual(engine.record, Record(self.rows))
            self.assertEqual(record, Record(self.rows[:many]))

    def test_what_the_record_had_stays(self):
        other = [(at("ways"), put("v", "0")), (at("up", ("7",)), put("x", "7")), (at("up"), ("read", (A,)))]
        engine = Engine(self.workshop, record=Record(other))
        engine.ask(self.project, ("n", "y"))
        self.assertEqual(engine.record, Record(self.rows + other))

    def test_the_record_is_trusted(self):
        """An engine runs nothing where its record tells the step."""
        rows = [(at("up"), ("read", (A,))), (at("up", ("1",)), put("x", "other"))]
        engine = Engine(self.workshop, record=Record(rows))
        self.assertEqual(engine.ask(self.project, ("m", "x")), "other")
        self.assertEqual((engine.news, engine.replays, len(engine)), ((), 0, 0))


class StepsTest(EngineTest):

    def test_each_new_step(self):
        taken = []
        for pair in self.engine.steps(self.project, ("n", "y")):
            taken.append(pair)
            self.assertEqual(self.engine.news, tuple(taken))
            self.assertEqual(self.engine.record, Record(taken))
        self.assertEqual(taken, self.rows)
        self.assertEqual(list(self.engine.steps(self.project, ("n", "y"))), [])

    def test_nothing_is_taken_before_it_is_walked(self):
        steps = self.engine.steps(self.project, ("n", "y"))
        self.counts(0, 0, 0)
        self.assertEqual(next(steps), self.rows[0])
        self.counts(1, 0, 1)

    def test_left_early(self):
        for pair in self.engine.steps(self.project, ("n", "y")):
            break
        self.assertEqual(self.engine.record, Record(self.rows[:1]))
        self.assertEqual(list(self.engine.steps(self.project, ("n", "y"))), self.rows[1:])

    def test_gone_on_with_after_other_steps(self):
        steps = self.engine.steps(self.project, ("n", "y"))
        self.assertEqual(next(steps), self.rows[0])
        self.engine.ask(self.project, ("m", "x"))
        self.assertEqual(next(steps), self.rows[3])
        self.assertEqual(list(steps), [])

    def test_it_looks_the_first_time_too(self):
        steps = self.engine.steps(self.project, ("n", "y"))
        self.engine.ask(self.project, ("m", "x"))
        self.assertEqual(list(steps), [self.rows[0], self.rows[3]])
        steps = self.engine.steps(self.project, ("n", "y"))
        self.assertEqual(list(steps), [])

    def test_all_taken_by_others(self):
        steps = self.engine.steps(self.project, ("n", "y"))
        next(steps)
        self.engine.ask(self.project, ("n", "y"))
        self.assertEqual(list(steps), [])
        self.assertEqual(self.engine.news, tuple(self.rows))

    def test_two_at_once(self):
        one, other = self.engine.steps(self.project, ("n", "y")), self.engine.steps(self.project, ("n", "y"))
        self.assertEqual([next(one), next(other), next(one), next(other)], self.rows)
        self.assertEqual(list(one) + list(other), [])

    def test_a_stuck_key(self):
        self.assertEqual(len(list(self.engine.steps(self.project, ("s", "x")))), 2)
        self.assertEqual(list(self.engine.steps(self.project, ("s", "x"))), [])

    def test_what_needs_no_step(self):
        self.assertEqual(list(self.engine.steps(self.project, A)), [])


class PursueTest(EngineTest):

    def test_several_keys(self):
        keys = [("n", "y"), ("t", "v"), ("s", "y")]
        taken = self.engine.pursue(self.project, keys)
        self.assertEqual(taken, self.engine.news)
        self.assertEqual(keys, [("n", "y"), ("t", "v"), ("s", "y")])
        record = Record()
        for place, step in taken:
            self.assertEqual(place, open_places(self.project, record, keys)[0])
            record = Record([*record.steps(), (place, step)])
        self.assertEqual(len(taken), 7)
        self.assertEqual(taken[-1], (at("ways"), put("v", "0")))

    def test_a_key_twice_and_a_tuple(self):
        self.assertEqual(self.engine.pursue(self.project, (("m", "x"), ("m", "x"))), tuple(self.rows[1:3]))
        self.assertEqual(self.engine.pursue(self.project, [("m", "x")]), ())
        self.assertEqual(self.engine.pursue(self.project, (("n", "y"), ("m", "x"))), (self.rows[0], self.rows[3]))
        self.assertEqual(self.engine.news, (*self.rows[1:3], self.rows[0], self.rows[3]))

    def test_stuck_keys(self):
        self.assertEqual(len(self.engine.pursue(self.project, [("s", "x"), ("s", "z")])), 2)
        self.assertEqual(self.engine.pursue(self.project, [("s", "x")]), ())

    def test_none(self):
        self.assertEqual(self.engine.pursue(self.project, []), ())
        self.assertEqual(self.engine.pursue(self.project, ()), ())
        self.assertEqual(self.engine.pursue(self.project, [A, ("no", "x")]), ())


class RunsTest(EngineTest):

    def test_a_run_that_goes_on_is_not_led_again(self):
        self.engine.ask(self.project, ("t", "v"))
        self.counts(1, 0, 1)
        self.engine.ask(self.project, ("t", "x"))
        self.counts(1, 0, 3)
        self.engine.ask(self.project, ("t", "y"))
        self.counts(0, 0, 4)

    def test_ways_behind_one_read(self):
        self.engine.ask(self.project, ("t", "x"))
        self.counts(1, 0, 3)
        other = self.project.write("src", "a", "7")
        self.assertEqual(self.engine.ask(other, ("t", "x")), "7")
        self.counts(2, 2, 4)
        third = self.project.write("src", "a", "8")
        self.assertEqual(self.engine.ask(third, ("t", "x")), "8")
        self.counts(3, 4, 5)
        self.assertEqual(self.engine.ask(other, ("t", "y")), "")
        self.counts(3, 4, 7)
        self.assertEqual(self.engine.ask(third.write("src", "b", "9"), ("t", "y")), "")
        self.counts(3, 4, 9)
        self.assertEqual(self.engine.ask(third, ("t", "y")), "")
        self.counts(4, 8, 10)

    def test_a_run_at_a_read_goes_on_with_any_answers(self):
        steps = self.engine.steps(self.project, ("t", "x"))
        next(steps)
        next(steps)
        self.counts(1, 0, 2)
        self.engine.ask(self.project.write("src", "a", "7"), ("t", "x"))
        self.counts(1, 0, 3)
        self.assertEqual(next(steps), (at("ways", ("1",)), put("x", "one")))
        self.counts(2, 2, 4)

    def test_behind_a_stop(self):
        stops = self.project.write("src", "a", "2")
        self.assertIs(self.engine.ask(stops, ("t", "x")), None)
        self.counts(0, 0, 3)
        self.engine.ask(self.project, ("t", "x"))
        self.counts(1, 2, 4)

    def test_behind_close(self):
        self.engine.ask(self.project, ("n", "y"))
        self.engine.ask(self.project, ("t", "x"))
        self.counts(3, 0, 7)
        self.assertIs(self.engine.close(), None)
        self.counts(0, 0, 7)
        self.engine.ask(self.project, ("t", "y"))
        self.counts(0, 3, 8)
        self.engine.close()
        self.engine.ask(self.project.write("src", "b", "4"), ("n", "y"))
        self.counts(1, 4, 9)
        self.assertEqual(self.engine.ask(self.project, ("n", "y")), "12")

    def test_a_record_has_no_runs(self):
        self.engine = Engine(self.workshop, record=Record(self.rows[:3]))
        self.engine.ask(self.project, ("n", "y"))
        self.counts(1, 1, 1)
        self.engine.ask(self.project, ("m", "z"))
        self.counts(1, 3, 2)

    def test_two_targets_share_a_run(self):
        self.engine.ask(self.project.put("k", Made("up")), ("m", "x"))
        self.counts(1, 0, 2)
        self.assertEqual(self.engine.ask(self.project.put("k", Made("up")), ("k", "x")), "1")
        self.counts(1, 0, 2)

    def test_runs_with_other_arguments_are_others(self):
        project = self.project.put("k", Made("up", ["v"]))
        self.engine.ask(project, ("m", "x"))
        self.engine.ask(project, ("k", "x"))
        self.counts(2, 0, 4)


class InterfaceTest(EngineTest):

    def test_what_is_told_is_new(self):
        self.engine.ask(self.project, ("m", "x"))
        record, news = self.engine.record, self.engine.news
        self.engine.ask(self.project, ("n", "y"))
        self.assertEqual(len(record), 2)
        self.assertEqual(len(news), 2)
        self.assertIs(type(news), tuple)

    def test_two_engines_share_nothing(self):
        other = Engine(self.workshop)
        self.engine.ask(self.project, ("n", "y"))
        self.assertEqual((other.record, other.news, len(other), other.replays), (Record(), (), 0, 0))
        self.assertEqual(other.ask(self.project, ("n", "y")), "12")

    def test_by_names(self):
        engine = Engine(workshop=self.workshop, record=None)
        self.assertEqual(engine.ask(project=self.project, key=("m", "x")), "1")
        self.assertEqual(engine(project=self.project, key=("m", "x")), "1")
        self.assertEqual(list(engine.steps(project=self.project, key=("m", "x"))), [])
        self.assertEqual(engine.pursue(project=self.project, keys=[("m", "x")]), ())
        self.assertRaises(TypeError, Engine, self.workshop, Record())

    def test_methods_stand_in_the_class_itself(self):
        for name in ["ask", "__call__", "steps", "pursue", "record", "news", "replays", "close", "__len__"]:
            self.assertIn(name, vars(Engine))

    def test_what_is_passed_stays(self):
        project = Project({name: self.project[name] for name in self.project.names})
        self.engine.ask(self.project, ("n", "y"))
        self.assertEqual(self.project, project)
        self.assertEqual(Engine(self.workshop).ask(self.project, ("n", "y")), "12")


class ChanceTest(unittest.TestCase):
    """Many small projects: answers, and the record behind each ask, against a plain reading of points 9 to 15."""

    def test_many_projects(self):
        world, chance = World(21, [("r1",)]), random.Random(22)
        for _ in range(150):
            workshop = world.workshop()
            engine, known, news, crew = Engine(workshop), {}, [], PlainCrew()
            for _ in range(5):
                project = world.project()
                for _ in range(3):
                    self.compare(engine, workshop, project, chance.choice(World.KEYS), known, news, crew)
                if chance.random() < 0.2:
                    engine.close()
                    crew.places.clear()

    def compare(self, engine, workshop, project, key, known, news, crew):
        meaning, plain = Meaning(project, workshop), Plain(project, workshop.step_at)
        while open_places(project, Record(list(known.items())), [key]):
            place = open_places(project, Record(list(known.items())), [key])[0]
            known[place] = workshop.step_at(place)
            news.append((place, known[place]))
            crew.take(place, known)
        if meaning.is_settled(key):
            self.assertEqual(engine.ask(project, key), plain.answer(key))
        else:
            with self.assertRaises(Stuck) as caught:
                engine.ask(project, key)
            self.assertTrue(plain.is_ring(caught.exception.ring, key))
        self.assertEqual(engine.news, tuple(news))
        self.assertEqual(engine.record, Record(list(known.items())))
        self.assertEqual((len(engine), engine.replays), (len(crew.places), crew.replays))
        self.assertEqual(dict(need(project, engine.record, key).steps()), plain.need(key))

    def test_any_order_of_the_asks(self):
        world, chance = World(23, [("r1",)]), random.Random(24)
        for _ in range(100):
            workshop = world.workshop()
            asks = [(world.project(), key) for key in chance.sample(World.KEYS, 4)]
            needs = [Plain(project, workshop.step_at).need(key) for project, key in asks]
            for _ in range(3):
                order = chance.sample(range(4), 4)
                engine, known = Engine(workshop), {}
                for index in order:
                    engine.pursue(asks[index][0], [asks[index][1]])
                    known.update(needs[index])
                    self.assertEqual(engine.record, Record(list(known.items())))
                    self.assertNotEqual(walk(asks[index][0], engine.record, asks[index][1])[0], "open")


class PlainCrew:
    """Where the runs of an engine stand, by the words of stage 5."""

    def __init__(self):
        self.places, self.replays = set(), 0

    def take(self, place, known):
        recipe, arguments, answers, count = place
        if place in self.places:
            self.places.remove(place)
        else:
            ahead = [other for other in self.places if count == 0 and answers and other in known
                     and other[:3] == (recipe, arguments, answers[:-1]) and known[other][0] == "read"]
            if ahead:
                self.places.remove(ahead[0])
            else:
                self.replays += len([other for other in known if other[:2] == place[:2] and (
                    other[2] == answers and other[3] < count or len(other[2]) < len(answers)
                    and other[2] == answers[:len(other[2])])])
        if known[place][0] == "write":
            self.places.add((recipe, arguments, answers, count + 1))
        elif known[place][0] == "read":
            self.places.add(place)


if __name__ == "__main__":
    unittest.main()
