"""Keeping: points 12 to 15, and the interface of stage 9 under this file."""

import itertools
import random
import unittest

from farenough.engine import Engine
from farenough.errors import NotPart, NotSettled, Stuck
from farenough.keeping import idle, keep, least, price, serves
from farenough.projects import Made, Project, Source
from farenough.recipes import TreeRecipe
from farenough.records import Record
from farenough.steps import in_order
from farenough.walks import need, walk
from farenough.workshops import Workshop
from samples import STOP, at, put, read, reads, write
from worlds import World

A, B = ("src", "a"), ("src", "b")
NY, MX = ("n", "y"), ("m", "x")
UP = TreeRecipe(read((A,), (), write("x", ((1, 0),))))
PAIR = TreeRecipe(read((MX, B), (), write("y", ((1, 0), (1, 1)))))


def parts_of(record):
    """All records that are contained in a record."""
    rows = list(record.steps())
    parts, waiting = [], [record]
    while waiting:
        part = waiting.pop()
        if part not in parts:
            parts.append(part)
            waiting.extend(part.without(place) for place, _ in rows if place in part)
    return parts


class TakenFrom:
    """Stands for a workshop: its recipes take the steps of a record."""

    def __init__(self, record):
        self.workshop = Workshop({place[0]: Steps(place[0], record) for place, _ in record.steps()})


class Steps(TreeRecipe):
    """A recipe that takes the steps of a record, and stops where it ends."""

    def __init__(self, name, record):
        self.name, self.table = name, dict(record.steps())

    def step_at(self, arguments, answers, count):
        return self.table.get((self.name, arguments, answers, count), STOP)


def asked_all(kept, record, asks):
    """The numbers of new steps and of replays of an engine that begins with a part and is asked."""
    engine = Engine(TakenFrom(record).workshop, record=kept)
    for project, key in asks:
        engine.ask(project, key)
    return len(engine.news), engine.replays


class KeepingCase(unittest.TestCase):

    def setUp(self):
        self.project = Project({"src": Source({"a": "1", "b": "2"}), "m": Made("up"), "n": Made("pair")})
        self.other = self.project.write("src", "a", "7").write("src", "c", "8")
        self.engine = Engine(Workshop({"up": UP, "pair": PAIR}))
        self.engine.ask(self.project, NY)
        self.record = self.engine.record

    def not_settled(self, asks, key):
        for asked in [least, idle, lambda *told: price(Record([(at("no"), STOP)]), *told), lambda *told: keep(*told, 3)]:
            with self.assertRaises(NotSettled) as caught:
                asked(self.record, asks)
            self.assertEqual(caught.exception.key, key)


class LeastTest(KeepingCase):

    def check(self, record, asks):
        for given in (asks, tuple(asks)):
            self.assertIs(serves(record, given), True)
            small = least(record, given)
            self.assertIs(type(small), Record)
            self.assertTrue(small.is_within(record))
            self.assertIs(serves(small, given), True)
            for place, _ in small.steps():
                self.assertIs(serves(small.without(place), given), False)
            self.assertEqual(idle(record, given), [place for place, _ in record.steps() if place not in small])

    def test_no_asks(self):
        self.assertIs(serves(Record(), []), True)
        self.assertEqual(least(self.record, []), Record())
        self.assertEqual(idle(self.record, ()), [place for place, _ in self.record.steps()])
        self.check(self.record, [])

    def test_one_ask(self):
        self.check(self.record, [(self.project, NY)])
        self.check(self.record, [(self.project, MX)])
        self.check(self.record, [(self.project, A)])
        self.assertEqual(least(self.record, [(self.project, MX)]), need(self.project, self.record, MX))
        self.assertEqual(idle(self.record, [(self.project, MX)]), [at("pair"), at("pair", ("1", "2"))])

    def test_several_projects(self):
        self.assertIs(serves(self.record, [(self.project, NY), (self.other, MX)]), False)
        self.engine.ask(self.other, NY)
        asks = [(self.project, MX), (self.other, MX), (self.other, NY), (self.other, NY)]
        self.check(self.engine.record, asks)
        self.assertEqual(idle(self.engine.record, asks), [at("pair", ("1", "2"))])

    def test_lists_are_new(self):
        asks = [(self.project, MX)]
        idle(self.record, asks).clear()
        self.assertEqual(len(idle(self.record, asks)), 2)
        self.assertEqual(asks, [(self.project, MX)])

    def test_the_first_key_that_is_not_settled(self):
        asks = [(self.project, NY), (self.other, NY), (self.other, MX)]
        self.not_settled(asks, NY)
        self.not_settled(asks[2:] + asks, MX)
        ring = Project({"m": Made("r")})
        record = Record([(at("r"), reads(MX))])
        self.assertIs(serves(record, [(ring, MX)]), False)
        with self.assertRaises(NotSettled):
            least(record, [(ring, MX)])

    def test_by_names(self):
        asks = [(self.project, MX)]
        self.assertIs(serves(record=self.record, asks=asks), True)
        self.assertEqual(least(record=self.record, asks=asks), least(self.record, asks))
        self.assertEqual(idle(record=self.record, asks=asks), idle(self.record, asks))
        self.assertEqual(price(kept=Record(), record=self.record, asks=asks), (2, 0))
        self.assertEqual(keep(record=self.record, asks=asks, many=0), Record())


class PriceTest(KeepingCase):

    def test_the_examples(self):
        asks = [(self.project, NY)]
        self.assertEqual(price(Record(), self.record, asks), (4, 0))
        self.assertEqual(price(self.record, self.record, asks), (0, 0))
        self.assertEqual(price(Record(list(self.record.steps())[:1]), self.record, asks), (3, 1))

    def test_not_a_part(self):
        rows = [(at("up", ("2",)), STOP), (at("up"), reads(A)), (at("zz"), STOP)]
        with self.assertRaises(NotPart) as caught:
            price(Record(rows), self.record, [(self.project, NY)])
        self.assertEqual(caught.exception.spot, at("up", ("2",)))
        with self.assertRaises(NotPart) as caught:
            price(Record([(at("up"), reads(B))]), self.record, [])
        self.assertEqual(caught.exception.spot, at("up"))
        with self.assertRaises(NotPart) as caught:
            price(Record([(at("up"), reads(A)), (at("up", ("1",)), STOP), (at("zz"), STOP)]), self.record, [])
        self.assertEqual(caught.exception.spot, at("up", ("1",)))

    def test_the_same_as_an_engine_in_any_order(self):
        self.engine.ask(self.other, NY)
        record = self.engine.record
        asks = [(self.project, NY), (self.other, MX), (self.other, NY)]
        for kept in parts_of(record):
            told = price(kept, record, asks)
            for order in itertools.permutations(asks):
                self.assertEqual(asked_all(kept, record, order), told)


class KeepTest(KeepingCase):

    def check(self, record, asks, choices=None):
        choices = parts_of(least(record, asks)) if choices is None else choices
        costs = [(len(part), sum(price(part, record, asks))) for part in choices]
        for many in range(len(least(record, asks)) + 3):
            kept = keep(record, asks, many)
            self.assertIs(type(kept), Record)
            self.assertLessEqual(len(kept), many)
            self.assertTrue(kept.is_within(record))
            self.assertEqual(Record(list(kept.steps())), kept)
            best = min(cost for size, cost in costs if size <= many)
            self.assertEqual(sum(price(kept, record, asks)), best)
            self.assertEqual(keep(record, asks, many), kept)

    def test_the_example(self):
        self.check(self.record, [(self.project, NY)])
        self.assertEqual(keep(self.record, [(self.project, NY)], 0), Record())
        for many in (4, 5, 400):
            self.assertEqual(keep(self.record, [(self.project, NY)], many), self.record)
        self.assertEqual(keep(self.record, [], 400), Record())

    def branching(self, lengths, above=2):
        """A need that branches behind one read into arms of these lengths."""
        rows, asks = [(at("r", count=count), put(f"w{count}")) for count in range(above)], []
        rows.append((at("r", count=above), reads(A)))
        for number, length in enumerate(lengths):
            for count in range(length - 1):
                rows.append((at("r", (str(number),), count=count), put(f"v{count}")))
            rows.append((at("r", (str(number),), count=length - 1), put("x")))
            asks.append((Project({"src": Source({"a": str(number)}), "m": Made("r")}), MX))
        return Record(rows), asks

    def test_arms_of_other_lengths(self):
        for lengths in [(1,), (1, 1), (1, 2, 3), (3, 1, 4), (2, 2, 2), (5, 1)]:
            for above in (0, 1, 3):
                self.check(*self.branching(lengths, above))

    def test_branches_behind_branches(self):
        rows, asks = [(at("r"), reads(A))], []
        for first in "12":
            rows.append((at("r", (first,)), reads(B)))
            for second in "123"[:int(first) + 1]:
                rows += [(at("r", (first,), (second,)), put("w")), (at("r", (first,), (second,), count=1), put("x"))]
                asks.append((Project({"src": Source({"a": first, "b": second}), "m": Made("r")}), MX))
        self.check(Record(rows), asks)
        self.check(Record(rows), asks[1:4] + asks[:1])

    def test_a_long_need(self):
        record, asks = self.branching((30,) * 12, 20)
        self.assertEqual(len(record), 381)
        for many, saved in [(0, 0), (50, 0), (51, 51), (80, 51), (81, 102), (380, 11 * 51), (381, 12 * 51), (400, 12 * 51)]:
            total = sum(price(Record(), record, asks))
            self.assertEqual(sum(price(keep(record, asks, many), record, asks)), total - saved)

    def test_worlds(self):
        checked = 0
        for seed in range(300):
            world, chance = World(seed, [("q",)]), random.Random(seed)
            workshop = world.workshop()
            engine, asks = Engine(workshop), []
            for _ in range(4):
                project, key = world.project(), world.key()
                try:
                    engine.ask(project, key)
                    asks.append((project, key))
                except Stuck:
                    pass
            record, small = engine.record, least(engine.record, asks)
            LeastTest.check(self, record, asks)
            if not 3 <= len(small) <= 12:
                continue
            checked += 1
            choices = parts_of(small)
            self.check(record, asks, choices)
            for kept in chance.sample(choices, 3):
                order = chance.sample(asks, len(asks))
                engine = Engine(workshop, record=kept)
                for project, key in order:
                    self.assertEqual(("settled", engine.ask(project, key)), walk(project, record, key))
                self.assertEqual(price(kept, record, asks), (len(engine.news), engine.replays))
                self.assertEqual([place for place, _ in kept.steps()], in_order([place for place, _ in kept.steps()]))
        self.assertGreater(checked, 100)


if __name__ == "__main__":
    unittest.main()
