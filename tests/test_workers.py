"""Workers: points 10 to 15, and the interface of stage 10."""

import random
import unittest

from farenough.engine import Engine
from farenough.errors import BuildError, NotAsked, Stuck
from farenough.projects import Made, Project, Source
from farenough.recipes import TreeRecipe
from farenough.records import Record
from farenough.steps import in_order
from farenough.walks import demand, need, open_places, walk
from farenough.workers import Shift, far_end, shift
from farenough.workshops import Workshop
from plain import Plain
from samples import STOP, at, read, write
from worlds import Layers, World

A, B = ("src", "a"), ("src", "b")
NY, MX = ("n", "y"), ("m", "x")
UP = TreeRecipe(read((A,), (), write("x", ((1, 0),))))
PAIR = TreeRecipe(read((MX, B), (), write("y", ((1, 0), (1, 1)))))
RING = TreeRecipe(write("w", ("1",), read((("s", "x"),), (), write("x"))))
BOTH = TreeRecipe(read((("p", "x"), ("q", "x")), (), write("x", ((1, 0), (1, 1)))))
# Reads one or the other, as the first answer tells.
EITHER = TreeRecipe(read((A,), ((("1",), read((("p", "x"),), (), write("x"))),), read((("q", "x"),), (), write("x"))))


class PlainShift:
    """The words of stage 10, carried out time by time."""

    def __init__(self, project, workshop, record, keys, workers=1, times=None, guess=False):
        self.project, self.record, self.keys = project, record, list(keys)
        self.events, busy, now = [], {}, 0
        while True:
            for worker, (begin, end, place) in sorted(busy.items()):
                if end == now:
                    step = (place, workshop.step_at(place))
                    self.record = Record(list(self.record.steps()) + [step])
                    self.events.append((begin, end, worker, place))
                    del busy[worker]
            places = open_places(project, self.record, self.keys)
            self.begin(now, workers, times, busy, places)
            if guess and any(place in self.working(busy) for place in places):
                self.begin(now, workers, times, busy, open_places(project, self.record, self.guessed()))
            if not busy:
                break
            now = min(end for _, end, _ in busy.values())
        self.events = tuple(sorted(self.events, key=lambda event: event[:3]))

    def working(self, busy):
        return [place for _, _, place in busy.values()]

    def begin(self, now, workers, times, busy, places):
        for worker in range(workers):
            left = [place for place in places if place not in self.working(busy)]
            if worker not in busy and left:
                busy[worker] = (now, now + (times or {}).get(left[0][0], 1), left[0])

    def guessed(self):
        guessed = set()
        for key in self.keys:
            if walk(self.project, self.record, key)[0] == "settled":
                continue
            for name, _ in demand(self.project, self.record, key):
                target = self.project[name] if name in self.project else None
                if not isinstance(target, Made):
                    continue
                recipe = target.recipe
                if isinstance(recipe, tuple):
                    state, recipe = walk(self.project, self.record, recipe)
                    if state != "settled":
                        continue
                for place, step in self.record.steps():
                    if place[:2] == (recipe, target.arguments) and step[0] == "read":
                        guessed |= set(step[1])
        return sorted(guessed)


class ShiftCase(unittest.TestCase):

    def setUp(self):
        self.workshop = Workshop({"up": UP, "pair": PAIR, "ring": RING, "both": BOTH, "either": EITHER})
        self.project = Project({"src": Source({"a": "1", "b": "2"}), "m": Made("up"), "n": Made("pair"), "s": Made("ring"),
                                "p": Made("up", ["p"]), "q": Made("up", ["q"]), "t": Made("both"), "o": Made("either")})

    def check(self, project, workshop, record, keys, **more):
        """The shift that is told for these arguments, compared with a plain reading of the words."""
        told = shift(project, workshop, record, keys, **more)
        self.assertIs(type(told), Shift)
        plain = PlainShift(project, workshop, record, keys, **more)
        self.assertEqual(told.events, plain.events)
        self.assertEqual(told.record, plain.record)
        self.assertEqual(told.news, len(told.record) - len(record))
        self.assertEqual(told.last, max([end for _, end, _, _ in told.events], default=0))
        needed = Record()
        for key in keys:
            needed = needed | need(project, told.record, key)
        ends = [end for _, end, _, place in told.events if place in needed]
        self.assertEqual(told.end, max(ends, default=0))
        places = [place for _, _, _, place in told.events]
        self.assertEqual(told.needless, in_order([place for place in places if place not in needed]))
        for key in keys:
            self.answers(told, project, key)
        return told

    def answers(self, told, project, key):
        state, worth = walk(project, told.record, key)
        if state == "settled":
            self.assertEqual(told.answer(key), worth)
            return
        with self.assertRaises(Stuck) as caught:
            told.answer(key)
        plain = Plain(project, dict(told.record.steps()).get)
        self.assertTrue(plain.is_ring(caught.exception.ring, key))

    def mine(self, *keys, record=Record(), **more):
        return self.check(self.project, self.workshop, record, keys, **more)


class EventsTest(ShiftCase):

    def test_one_worker(self):
        told = self.mine(NY)
        self.assertEqual(told.events, ((0, 1, 0, at("pair")), (1, 2, 0, at("up")), (2, 3, 0, at("up", ("1",))),
                                       (3, 4, 0, at("pair", ("1", "2")))))
        self.assertEqual((told.end, told.last, told.news, told.needless, told.answer(NY)), (4, 4, 4, [], "12"))

    def test_times(self):
        told = self.mine(NY, times={"up": 5, "other": 99})
        self.assertEqual([event[:2] for event in told.events], [(0, 1), (1, 6), (6, 11), (11, 12)])
        told = self.mine(("t", "x"), workers=2, times={"both": 3, "up": 2})
        self.assertEqual(told.events, ((0, 3, 0, at("both")), (3, 5, 0, at("up", arguments=("p",))),
                                       (3, 5, 1, at("up", arguments=("q",))), (5, 7, 0, at("up", ("1",), arguments=("p",))),
                                       (5, 7, 1, at("up", ("1",), arguments=("q",))), (7, 10, 0, at("both", ("1", "1")))))

    def test_more_workers_than_places(self):
        for workers in (3, 12):
            self.assertEqual(self.mine(("t", "x"), workers=workers).events, self.mine(("t", "x"), workers=2).events)

    def test_places_of_one_recipe_and_arguments(self):
        # Two targets stand at one place: it is worked on once.
        project = self.project.put("u", Made("up"))
        told = self.check(project, self.workshop, Record(), [MX, ("u", "x")], workers=3)
        self.assertEqual(told.events, ((0, 1, 0, at("up")), (1, 2, 0, at("up", ("1",)))))
        # Places of one recipe and arguments with other answers become due at once.
        copy = TreeRecipe(read((("src", "k"),), (), write("x", ((1, 0),))))
        by = TreeRecipe(read((MX,), (), read((("src", "k"),), (), write("x", ((1, 0),)))))
        workshop = Workshop({"copy": copy, "by": by})
        project = Project({"src": Source({"k": "1"}), "m": Made("copy"), "p": Made("by"), "q": Made("by", ["1"])})
        told = self.check(project, workshop, Record(), [("p", "x"), ("q", "x")], workers=4, times={"copy": 2})
        self.assertEqual(told.news, 8)

    def test_no_keys_and_keys_that_are_settled(self):
        for keys in [(), [A], [("no", "x"), A]]:
            told = self.mine(*keys, workers=3, guess=True)
            self.assertEqual((told.events, told.last, told.end, told.needless, told.news), ((), 0, 0, [], 0))
            self.assertEqual(told.record, Record())

    def test_keys_twice(self):
        self.assertEqual(self.mine(NY, NY, MX, workers=2).events, self.mine(NY, MX, workers=2).events)

    def test_keys_that_wait_for_ever(self):
        told = self.mine(("s", "x"), NY, workers=2)
        with self.assertRaises(Stuck) as caught:
            told.answer(("s", "x"))
        self.assertEqual(caught.exception.ring, (("s", "x"),))
        self.assertEqual(told.answer(NY), "12")
        self.assertIn(at("ring", count=1), told.record)

    def test_a_record_to_begin_with(self):
        engine = Engine(self.workshop)
        engine.ask(self.project, MX)
        told = self.mine(NY, record=engine.record)
        self.assertEqual(told.news, 2)
        self.assertTrue(engine.record.is_within(told.record))


class AnswerTest(ShiftCase):

    def test_not_asked_comes_first(self):
        told = self.mine(("s", "x"))
        for key in [("s", "w"), ("s", "z"), A, NY]:
            with self.assertRaises(NotAsked) as caught:
                told.answer(key)
            self.assertEqual(caught.exception.key, key)
            self.assertNotIsInstance(caught.exception, BuildError)
        self.assertEqual(self.mine(("s", "w")).answer(("s", "w")), "1")

    def test_nothing_that_is_passed_is_changed(self):
        keys, times, record = [NY], {"up": 2}, Record()
        told = shift(self.project, self.workshop, record, keys, times=times, workers=2)
        self.assertEqual((keys, times, record), ([NY], {"up": 2}, Record()))
        keys.append(A)
        with self.assertRaises(NotAsked):
            told.answer(A)
        told.needless.append(1)
        self.assertEqual(told.needless, [])

    def test_by_names(self):
        told = shift(project=self.project, workshop=self.workshop, record=Record(), keys=(NY,), workers=2, times=None,
                     guess=False)
        self.assertEqual(told.answer(key=NY), "12")
        self.assertEqual(far_end(project=self.project, workshop=self.workshop, record=Record(), keys=[NY], times={}), 4)
        with self.assertRaises(TypeError):
            shift(self.project, self.workshop, Record(), [NY], 2)
        with self.assertRaises(TypeError):
            far_end(self.project, self.workshop, Record(), [NY], {})


class GuessTest(ShiftCase):

    def setUp(self):
        super().setUp()
        engine = Engine(self.workshop)
        engine.ask(self.project.write("src", "a", "9"), ("o", "x"))
        # It read q.x when the first answer was another one.
        self.known = Record([(at("either"), ("read", (A,))), (at("either", ("9",)), ("read", (("q", "x"),)))])
        self.assertTrue(self.known.is_within(engine.record))

    def test_keys_that_were_read_before(self):
        told = self.mine(("o", "x"), record=self.known, workers=2, guess=True)
        self.assertEqual(told.events[:2], ((0, 1, 0, at("either", ("1",))), (0, 1, 1, at("up", arguments=("q",)))))
        self.assertEqual(told.needless, [at("up", arguments=("q",)), at("up", ("1",), arguments=("q",))])
        self.assertEqual(told.answer(("o", "x")), "")
        # A key of a source may be read again, too: it needs no step.
        self.assertEqual(self.mine(("o", "x"), record=self.known, workers=2).needless, [])

    def test_a_guess_that_is_right(self):
        project = self.project.write("src", "a", "5")
        plain = self.check(project, self.workshop, self.known, [("o", "x")], workers=2)
        told = self.check(project, self.workshop, self.known, [("o", "x")], workers=2, guess=True)
        self.assertEqual((plain.end, told.end), (4, 3))
        self.assertEqual(told.record, plain.record)

    def test_a_guessed_step_is_not_broken_off(self):
        told = self.mine(("o", "x"), record=self.known, workers=2, guess=True, times={"up": 10})
        self.assertEqual(told.events[1], (0, 10, 1, at("up", arguments=("q",))))
        self.assertLessEqual(told.end, told.last)
        later = self.mine(("o", "x"), NY, record=self.known, workers=2, guess=True, times={"up": 10})
        self.assertEqual(later.answer(NY), "12")

    def test_the_end_and_the_last(self):
        told = self.mine(("o", "x"), record=self.known, workers=2, guess=True, times={"up": 3, "either": 4})
        self.assertEqual(told.end, max(end for _, end, _, place in told.events if place not in told.needless))
        told = self.mine(("o", "x"), record=self.known, workers=3, guess=True, times={"up": 9})
        self.assertEqual(told.last, told.end)
        known = Record([*self.known.steps(), (at("either", ("1",)), ("read", (("p", "x"),))),
                        (at("up", arguments=("p",)), ("read", (A,)))])
        told = self.mine(("o", "x"), record=known, workers=2, guess=True, times={"up": 9, "either": 1})
        self.assertEqual((told.end, told.last), (10, 18))

    def test_no_guess_with_one_worker(self):
        told = self.mine(("o", "x"), record=self.known, guess=True)
        self.assertEqual(told.events, self.mine(("o", "x"), record=self.known).events)

    def test_no_guess_where_nothing_is_open(self):
        told = self.mine(("s", "x"), record=Record([(at("ring"), ("write", "w", "1")),
                                                    (at("ring", count=1), ("read", (("s", "x"),)))]), workers=3, guess=True)
        self.assertEqual(told.events, ())

    def test_a_recipe_that_is_not_known_yet(self):
        project = self.project.put("o", Made(("m", "x"))).write("src", "a", "either")
        told = self.check(project, self.workshop, self.known, [("o", "x")], workers=2, guess=True)
        self.assertEqual([event[3] for event in told.events][:2], [at("up"), at("up", ("either",))])

    def test_other_arguments_are_others(self):
        project = self.project.put("o", Made("either", ["v"]))
        told = self.check(project, self.workshop, self.known, [("o", "x")], workers=2, guess=True)
        self.assertEqual(told.needless, [])


class BoundsTest(ShiftCase):

    def test_far_end(self):
        self.assertEqual(far_end(self.project, self.workshop, Record(), [("t", "x")]), 4)
        self.assertEqual(far_end(self.project, self.workshop, Record(), (("t", "x"), NY), times={"up": 7}), 16)
        self.assertEqual(far_end(self.project, self.workshop, Record(), []), 0)

    def test_worlds(self):
        seen = {"guesses": 0, "stuck": 0, "sooner": 0, "later": 0, "aside": 0}
        for seed in range(400):
            world, chance = (Layers if seed % 4 else World)(seed, [("q",)]), random.Random(seed)
            workshop, project = world.workshop(), world.project()
            engine = Engine(workshop)
            engine.pursue(world.project(), [world.key() for _ in range(chance.randint(0, 3))])
            record, keys = engine.record, [world.key() for _ in range(chance.randint(1, 4))]
            times = {name: chance.randint(1, 4) for name in ["r0", "b", "d", "e"]} if seed % 2 else None
            engine.pursue(project, keys)
            far = far_end(project, workshop, record, keys, times=times)
            for workers in (1, 2, 3, 12):
                told = self.check(project, workshop, record, keys, workers=workers, times=times)
                self.assertEqual(told.record, engine.record)
                self.assertEqual((told.needless, told.end), ([], told.last))
                total = sum(end - begin for begin, end, _, _ in told.events)
                self.assertLessEqual(workers * told.end, total + (workers - 1) * far)
                self.assertGreaterEqual(told.end, far)
                guess = self.check(project, workshop, record, keys, workers=workers, times=times, guess=True)
                self.assertTrue(told.record.is_within(guess.record))
                self.note(seen, told, guess, workers, keys)
        self.assertTrue(all(seen.values()), seen)

    def note(self, seen, told, guess, workers, keys):
        if workers == 1:
            self.assertEqual(told.events, guess.events)
        seen["guesses"] += told.events != guess.events
        seen["sooner"] += guess.end < told.end
        seen["later"] += guess.last > told.last
        seen["aside"] += len(guess.needless)
        for key in keys:
            try:
                worth = told.answer(key)
            except Stuck:
                seen["stuck"] += 1
                with self.assertRaises(Stuck):
                    guess.answer(key)
            else:
                self.assertEqual(guess.answer(key), worth)


if __name__ == "__main__":
    unittest.main()
