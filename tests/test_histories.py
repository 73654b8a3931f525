"""Histories: points 8, 14 and 15, and the interface of stage 11 under this file."""

import itertools
import random
import unittest

from farenough.engine import Engine
from farenough.errors import BuildError, Conflict, NoVersion, Stuck
from farenough.histories import History, turning
from farenough.meaning import Meaning
from farenough.projects import Made, Project, Source
from farenough.recipes import TreeRecipe
from farenough.walks import walk
from farenough.workshops import Workshop
from samples import read, write
from worlds import Layers

UP, RING = Made("up"), Made("ring")
MX, A = ("m", "x"), ("src", "a")


def outputs(**texts):
    return Source(texts)


def project_of(**targets):
    return Project({name: target for name, target in targets.items() if target is not None})


class HistoryCase(unittest.TestCase):

    def begin(self, *projects):
        """A history whose versions 1, 2, .. are children of version 0."""
        self.history = History(projects[0])
        for number, project in enumerate(projects[1:], 1):
            self.assertEqual(self.history.commit(0, project), number)

    def no_version(self, number, act, *told):
        before = len(self.history)
        with self.assertRaises(NoVersion) as caught:
            act(*told)
        self.assertEqual(caught.exception.number, number)
        self.assertNotIsInstance(caught.exception, BuildError)
        self.assertEqual(len(self.history), before)


class CommitTest(HistoryCase):

    def test_versions(self):
        first, second = project_of(a=UP), project_of(b=UP)
        self.begin(first, second, first)
        self.assertEqual(self.history.commit(parent=1, project=project_of()), 3)
        self.assertEqual([self.history[number] for number in range(4)], [first, second, first, project_of()])
        self.assertEqual(len(self.history), 4)
        self.assertEqual([self.history.parents(number) for number in range(4)], [(), (0,), (0,), (1,)])
        self.assertEqual(self.history.parents(number=3), (1,))
        for number in range(4):
            self.assertIs(number in self.history, True)
        for number in (-1, -4, 4, 100):
            self.assertIs(number in self.history, False)

    def test_no_version(self):
        self.begin(project_of(), project_of(a=UP))
        for number in (-1, 2, 99):
            self.no_version(number, lambda: self.history[number])
            self.no_version(number, self.history.commit, number, project_of())
            self.no_version(number, self.history.parents, number)
            self.no_version(number, self.history.trunk, number)
            for act in (self.history.base, self.history.merge):
                self.no_version(number, act, number, -7)
                self.no_version(number, act, 1, number)
                self.no_version(number, act, number, 1)

    def test_a_history_is_not_iterated_over(self):
        self.begin(project_of())
        with self.assertRaises(TypeError):
            list(self.history)


class BaseTest(HistoryCase):

    def test_a_tree_with_merges(self):
        self.begin(project_of(), project_of(), project_of())
        merge, commit = self.history.merge, self.history.commit
        self.assertEqual([merge(1, 2), merge(2, 2), commit(4, project_of()), merge(3, 5), merge(0, 6)], [3, 4, 5, 6, 7])
        self.assertEqual([self.history.parents(number) for number in (3, 4, 6, 7)], [(1, 2), (2, 2), (3, 5), (0, 6)])
        for one, other, base in [(0, 7, 0), (1, 2, 0), (3, 4, 2), (3, 5, 2), (6, 5, 5), (6, 4, 4), (7, 6, 6), (1, 6, 1),
                                 (3, 3, 3), (0, 0, 0), (4, 1, 0)]:
            self.assertEqual(self.history.base(one, other), base)
            self.assertEqual(self.history.base(other=one, one=other), base)
        for number, trunk in [(0, (0,)), (2, (0, 2)), (3, (0, 1, 3)), (4, (0, 2, 4)), (6, (0, 1, 3, 6)), (7, (0, 7))]:
            self.assertEqual(self.history.trunk(number), trunk)
        self.assertEqual(self.history.trunk(number=5), (0, 2, 4, 5))

    def test_any_two_versions(self):
        chance = random.Random(5)
        for _ in range(20):
            self.begin(project_of())
            for number in range(1, 30):
                if chance.random() < 0.6:
                    self.history.commit(chance.randrange(number), project_of())
                else:
                    self.history.merge(chance.randrange(number), chance.randrange(number))
            lines = {}
            for number in range(30):
                lines[number] = {number}.union(*[lines[parent] for parent in self.history.parents(number)])
            for one, other in itertools.product(range(30), repeat=2):
                self.assertEqual(self.history.base(one, other), max(lines[one] & lines[other]))


class MergeTest(HistoryCase):

    def plain(self, base, one, other):
        """The targets of a merge by the words of the interface, and the conflicts."""
        targets, conflicts = {}, []
        for name in {*base.names, *one.names, *other.names}:
            b, x, y = [project[name] if name in project else None for project in (base, one, other)]
            if x == b:
                targets[name] = y
            elif y == b or x == y:
                targets[name] = x
            elif isinstance(x, Source) and isinstance(y, Source) and not isinstance(b, Made):
                texts = {}
                for output in {*(b.outputs if b else ()), *x.outputs, *y.outputs}:
                    bo, xo, yo = (b.outputs if b else {}).get(output), x.outputs.get(output), y.outputs.get(output)
                    if xo == bo:
                        texts[output] = yo
                    elif yo == bo or xo == yo:
                        texts[output] = xo
                    else:
                        conflicts.append(name + "." + output)
                targets[name] = Source({output: text for output, text in texts.items() if text is not None})
            else:
                conflicts.append(name)
        return {name: target for name, target in targets.items() if target is not None}, tuple(sorted(conflicts))

    def merged(self, base, one, other):
        for first, second in [(one, other), (other, one)]:
            self.begin(base, first, second)
            self.assertEqual(self.history.merge(1, 2), 3)
            self.assertEqual(self.history.parents(3), (1, 2))
            told = self.history[3]
        return told

    def conflict(self, base, one, other, *names):
        for first, second in [(one, other), (other, one)]:
            self.begin(base, first, second)
            with self.assertRaises(Conflict) as caught:
                self.history.merge(1, 2)
            self.assertEqual(caught.exception.conflicts, names)
            self.assertEqual(len(self.history), 3)
            self.assertNotIn(3, self.history)

    def test_target_by_target(self):
        base = project_of(a=UP, b=UP, c=UP, d=UP)
        one = project_of(a=RING, b=UP, c=RING, e=UP, f=RING)
        other = project_of(a=UP, c=RING, d=UP, f=RING)
        self.assertEqual(self.merged(base, one, other), project_of(a=RING, c=RING, e=UP, f=RING))

    def test_output_by_output(self):
        base = project_of(s=outputs(a="1", b="1", c="1", d="1"))
        one = project_of(s=outputs(a="2", b="1", d="5", e="3", f="4"))
        other = project_of(s=outputs(a="1", b="7", c="1", d="5", f="4", g="6"))
        expected = project_of(s=outputs(a="2", b="7", d="5", e="3", f="4", g="6"))
        self.assertEqual(self.merged(base, one, other), expected)

    def test_a_base_without_the_target(self):
        told = self.merged(project_of(), project_of(s=outputs(a="1", b="2")), project_of(s=outputs(b="2", c="3")))
        self.assertEqual(told, project_of(s=outputs(a="1", b="2", c="3")))
        self.conflict(project_of(), project_of(s=outputs(a="1")), project_of(s=outputs(a="2")), "s.a")

    def test_conflicts_of_outputs(self):
        base = project_of(s=outputs(a="1", b="1", c="1"))
        self.conflict(base, project_of(s=outputs(a="2", b="2", c="1")), project_of(s=outputs(b="3", c="1")), "s.a", "s.b")
        self.conflict(base, project_of(s=outputs(a="1", b="1", c="1", d="1")),
                      project_of(s=outputs(a="1", b="1", c="1", d="2")), "s.d")

    def test_conflicts_of_targets(self):
        source = project_of(s=outputs(a="1"))
        for base, one, other in [
                (source, project_of(), project_of(s=outputs(a="2"))), (source, project_of(s=UP), project_of(s=RING)),
                (source, project_of(s=UP), project_of(s=outputs(a="2"))), (project_of(s=UP), project_of(s=RING), project_of()),
                (project_of(s=UP), source, project_of(s=outputs(a="2"))), (project_of(), source, project_of(s=UP)),
                (project_of(s=UP), source, project_of(s=RING)), (source, project_of(s=UP), project_of())]:
            self.conflict(base, one, other, "s")

    def test_all_names_ascending(self):
        base = project_of(a=UP, b=outputs(x="1", y="1"), b0=UP)
        one = project_of(a=RING, b=outputs(x="2", y="2"), b0=RING, z=UP)
        other = project_of(b=outputs(x="3", y="3"), b0=Made("no"), z=RING, q=UP)
        self.conflict(base, one, other, "a", "b.x", "b.y", "b0", "z")

    def test_versions_in_a_row_and_one_with_itself(self):
        self.begin(project_of(a=UP), project_of(a=UP, b=UP))
        self.assertEqual(self.history.merge(1, 1), 2)
        self.assertEqual(self.history.merge(one=0, other=2), 3)
        self.assertEqual(self.history.commit(0, project_of()), 4)
        self.assertEqual(self.history.merge(3, 4), 5)
        self.assertEqual([self.history[number] for number in (2, 3, 5)],
                         [project_of(a=UP, b=UP), project_of(a=UP, b=UP), project_of(b=UP)])

    def test_each_case_by_chance(self):
        chance, seen = random.Random(9), {True: 0, False: 0}
        sources = [Source(dict(zip("ab", texts))) for texts in itertools.product("12", repeat=2)]
        sources += [Source({}), Source({"a": "1"}), Source({"b": "2"})]
        for _ in range(1500):
            base, one, other = [project_of(**{name: chance.choice([None, UP, RING, *sources]) for name in "pq"})
                                for _ in range(3)]
            targets, conflicts = self.plain(base, one, other)
            seen[bool(conflicts)] += 1
            if conflicts:
                self.conflict(base, one, other, *conflicts)
            else:
                self.assertEqual(self.merged(base, one, other), Project(targets))
        self.assertGreater(min(seen.values()), 200)


class TurningTest(unittest.TestCase):

    def setUp(self):
        self.up = TreeRecipe(read((A,), (), write("x", ((1, 0),))))
        self.ring = TreeRecipe(read((MX,), (), write("x")))
        self.workshop = Workshop({"up": self.up, "ring": self.ring})

    def plain(self, engine, projects, key):
        """What the interface says, with the walk along the record asked again each time."""
        first, last = engine.ask(projects[0], key), engine.ask(projects[-1], key)
        while first != last:
            walks = [walk(project, engine.record, key) for project in projects]
            known = [at for at, (state, _) in enumerate(walks) if state == "settled"]
            pairs = [(upper - lower, lower, upper) for lower, upper in zip(known, known[1:])
                     if walks[lower][1] == first and walks[upper][1] != first]
            near, lower, upper = min(pairs)
            if near == 1:
                return upper
            engine.ask(projects[(lower + upper) // 2], key)
        return None

    def check(self, projects, key=MX, begin=(), workshop=None):
        engines = [Engine(workshop or self.workshop) for _ in range(2)]
        for engine in engines:
            for project in begin:
                engine.ask(project, key)
        told, expected = turning(engines[0], projects, key), self.plain(engines[1], projects, key)
        self.assertEqual(told, expected)
        self.assertEqual(engines[0].record, engines[1].record)
        self.assertEqual(engines[0].news, engines[1].news)
        self.assertEqual((engines[0].replays, len(engines[0])), (engines[1].replays, len(engines[1])))
        news = engines[0].news
        self.assertEqual(turning(engines[0], tuple(projects), key), told)
        self.assertEqual(engines[0].news, news)
        if told is not None:
            meanings = [Meaning(projects[at], workshop or self.workshop) for at in (0, told - 1, told)]
            answers = [meaning.answer(key) for meaning in meanings]
            self.assertEqual(answers[0], answers[1])
            self.assertNotEqual(answers[0], answers[2])
        return told

    def row(self, texts):
        return [project_of(src=outputs(a=text), m=UP) for text in texts]

    def test_two_projects(self):
        self.assertEqual(self.check(self.row("12")), 1)
        self.assertIsNone(self.check(self.row("11")))

    def test_the_first_and_the_last_alike(self):
        self.assertIsNone(self.check(self.row("12221")))
        self.assertIsNone(self.check([project_of()] * 3))

    def test_one_turn(self):
        for turn in range(1, 20):
            self.assertEqual(self.check(self.row("1" * turn + "2" * (20 - turn))), turn)

    def test_every_project_is_another_one(self):
        for many in (3, 50, 200):
            projects = self.row([str(number) for number in range(many)])
            self.assertEqual(self.check(projects), 1)
        # Halving: the middle has another answer each time.
        engine = Engine(self.workshop)
        turning(engine, projects, MX)
        self.assertEqual(len(engine.news), 1 + 9)

    def test_the_bound_on_the_asks(self):
        for many in range(2, 65):
            halved, bound = many - 2, 2
            while halved:
                halved, bound = halved // 2, bound + 1
            for turn in (1, many // 2 or 1, many - 1):
                texts = [f"a{number}" if number >= turn else "" for number in range(many)]
                recipe = TreeRecipe(read((A,), (), read((("src", "b"),), (), write("x", ((2, 0),)))))
                projects = [project_of(src=outputs(a=str(number), b=text), m=UP) for number, text in enumerate(texts)]
                engine = Engine(Workshop({"up": recipe}))
                self.assertEqual(turning(engine, projects, MX), turn)
                # Each ask of a project takes two steps behind the first read.
                self.assertLessEqual((len(engine.news) - 1) // 2, bound)

    def test_known_ones(self):
        projects = self.row("1112131444")
        self.assertEqual(self.check(projects), 7)
        for begin in itertools.combinations(projects, 2):
            self.check(projects, begin=begin)

    def test_the_closest_pair_and_of_these_the_first(self):
        texts = "1x1x1x1x1x"
        self.assertEqual(self.check(self.row(texts)), 1)
        # Where only some are known by the record.
        pick = TreeRecipe(read((A,), (), read((("src", "b"),), (), write("x", ((2, 0),)))))
        workshop = Workshop({"up": pick})
        projects = [project_of(src=outputs(a=str(number), b="1" if number < 7 or number == 9 else "2"), m=UP)
                    for number in range(16)]
        for begin in [(), (projects[9],), (projects[3], projects[8]), (projects[6], projects[12], projects[10])]:
            self.check(projects, begin=begin, workshop=workshop)

    def test_keys_that_are_missing(self):
        self.assertIsNone(self.check(self.row("123"), ("no", "x")))
        self.assertIsNone(self.check(self.row("123"), ("m", "y")))
        self.assertEqual(self.check([project_of(), *self.row("11")]), 1)
        self.assertEqual(self.check([*self.row("111"), project_of()]), 3)
        self.assertEqual(self.check([project_of(src=outputs()), project_of(src=outputs(a="")), project_of(src=outputs(a=""))],
                                    A), 1)

    def test_keys_that_wait_for_ever(self):
        stuck = project_of(src=outputs(a="1"), m=RING)
        plain = self.row("1")[0], self.row("2")[0]
        for projects in [[stuck, *plain], [*plain, stuck], [plain[0], stuck, plain[1]]]:
            with self.assertRaises(Stuck) as caught:
                turning(Engine(self.workshop), projects, MX)
            self.assertEqual(caught.exception.ring, (MX,))
        # One that is not asked does no harm.
        self.assertEqual(self.check([plain[0], stuck, plain[0], plain[1]]), 3)
        engine = Engine(self.workshop)
        engine.ask(plain[0], MX)
        self.assertEqual(turning(engine, [plain[0], stuck, plain[0], plain[0], plain[1]], MX), 4)

    def test_a_ring_at_the_first_stops_there(self):
        engine = Engine(self.workshop)
        with self.assertRaises(Stuck):
            turning(engine, [project_of(m=RING), self.row("1")[0]], MX)
        self.assertEqual(len(engine.news), 1)

    def test_rows_by_chance(self):
        for seed in range(60):
            world = Layers(seed)
            workshop, chance = world.workshop(), random.Random(seed)
            projects = [world.project()]
            while len(projects) < 12:
                projects.append(projects[-1].write("a", chance.choice("xy"), chance.choice("012")))
            begin = chance.sample(projects, chance.randint(0, 2))
            self.check(projects, (chance.choice("cdef"), chance.choice("xy")), begin, workshop)

    def test_by_names(self):
        engine, projects = Engine(self.workshop), self.row("12")
        self.assertEqual(turning(engine=engine, projects=projects, key=MX), 1)
        self.assertEqual(projects, self.row("12"))


if __name__ == "__main__":
    unittest.main()
