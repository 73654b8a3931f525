"""Sessions: points 8, 15 and 18, and the interface of stage 11 under this file."""

import random
import unittest

from farenough.engine import Engine
from farenough.errors import BuildError, Failed, NotSource, NoTarget, Stuck
from farenough.meaning import Meaning
from farenough.projects import Made, Project, Source
from farenough.recipes import TreeRecipe
from farenough.records import Record
from farenough.sessions import Session
from farenough.workshops import Workshop
from samples import deep, read, write

A, MX = ("src", "a"), ("m", "x")
UP = TreeRecipe(read((A,), (), write("x", ((1, 0),))))
RING = TreeRecipe(read((("s", "x"),), (), write("x")))
SRC, MADE = Source({"a": "1"}), Made("up")
WRONG = [None, True, False, 0, 1, -1, "", "A", "put", "undo", (), ("a",), ("a", "b", "c"), (("a",),), (None,), deep(7),
         ("src", "a"), "a" * 9]


class SessionCase(unittest.TestCase):

    def setUp(self):
        self.workshop = Workshop({"up": UP, "ring": RING})
        self.project = Project({"src": SRC, "m": MADE, "s": Made("ring")})
        self.session = Session(self.workshop, self.project)

    def stands(self, *log):
        """The log, and that the project is the one to which these deeds lead."""
        self.assertEqual(self.session.log(), list(log))
        project = self.project
        for name, *values in log:
            project = getattr(project, name)(*values)
        self.assertEqual(self.session.project, project)


class DeedsTest(SessionCase):

    def test_the_beginning(self):
        self.assertEqual(self.session.project, self.project)
        self.assertEqual(self.session.record, Record())
        self.stands()
        engine = Engine(self.workshop)
        engine.ask(self.project, MX)
        self.assertEqual(Session(self.workshop, self.project, record=engine.record).record, engine.record)
        self.assertEqual(Session(workshop=self.workshop, project=self.project, record=None).record, Record())

    def test_each_deed(self):
        self.assertIsNone(self.session.put("n", MADE))
        self.assertIsNone(self.session.write("src", "b", "2"))
        self.assertIsNone(self.session.write("new", "b", ""))
        self.assertIsNone(self.session.erase("src", "a"))
        self.assertIsNone(self.session.without("m"))
        self.stands(("put", "n", MADE), ("write", "src", "b", "2"), ("write", "new", "b", ""), ("erase", "src", "a"),
                    ("without", "m"))

    def test_by_names(self):
        self.session.put(name="n", target=MADE)
        self.session.write(name="src", output="a", text="2")
        self.session.erase(name="src", output="a")
        self.session.without(name="n")
        self.assertEqual(self.session.ask(key=MX), "")
        self.assertEqual(len(self.session.log()), 4)

    def test_deeds_without_effect(self):
        self.session.put("m", Made("up", []))
        self.session.put("src", Source({"a": "1"}))
        self.session.write("src", "a", "1")
        self.session.erase("src", "b")
        self.stands()
        self.assertIs(self.session.undo(), False)

    def test_refused_deeds(self):
        self.session.put("n", MADE)
        for error, act in [(NoTarget, lambda: self.session.without("no")), (NoTarget, lambda: self.session.erase("no", "a")),
                           (NotSource, lambda: self.session.erase("m", "a")),
                           (NotSource, lambda: self.session.write("m", "a", "1"))]:
            with self.assertRaises(error):
                act()
            self.stands(("put", "n", MADE))

    def test_undo_again_and_again(self):
        deeds = [("put", "n", MADE), ("write", "src", "a", "2"), ("without", "m"), ("erase", "src", "a")]
        for name, *values in deeds:
            getattr(self.session, name)(*values)
        for many in (3, 2, 1, 0):
            self.assertIs(self.session.undo(), True)
            self.stands(*deeds[:many])
        for _ in range(2):
            self.assertIs(self.session.undo(), False)
            self.stands()
        self.session.without("m")
        self.stands(("without", "m"))

    def test_asks(self):
        self.assertEqual(self.session.ask(MX), "1")
        self.assertEqual(len(self.session.record), 2)
        self.stands()
        self.session.write("src", "a", "2")
        self.assertEqual(self.session.ask(MX), "2")
        self.session.undo()
        self.assertEqual(self.session.ask(MX), "1")
        self.assertEqual(len(self.session.record), 3)
        with self.assertRaises(Stuck) as caught:
            self.session.ask(("s", "x"))
        self.assertEqual(caught.exception.ring, (("s", "x"),))
        self.assertEqual(len(self.session.record), 4)

    def test_lists_are_new_and_projects_stay(self):
        self.session.put("n", MADE)
        self.session.log().clear()
        self.assertEqual(len(self.session.log()), 1)
        self.assertEqual(len(self.project), 3)


class AttemptTest(SessionCase):

    def fails(self, deeds, *path, **more):
        project, log = self.session.project, self.session.log()
        with self.assertRaises(Failed) as caught:
            self.session.attempt(deeds, **more)
        self.assertEqual(caught.exception.path, path)
        self.assertEqual(self.session.project, project)
        self.assertEqual(self.session.log(), log)

    def test_what_it_returns(self):
        deeds = [("put", "n", MADE), ("ask", MX), ("write", "src", "a", "2"), ("ask", MX), ("erase", "src", "a"),
                 ("ask", MX), ("undo",), ("undo",), ("undo",), ("undo",), ("without", "s"), ("attempt", [("ask", MX)]),
                 ("attempt", ()), ("attempt", (("undo",), ("put", "s", MADE)))]
        told = [None, "1", None, "2", None, "", True, True, True, False, None, ["1"], [], [False, None]]
        self.assertEqual(self.session.attempt(deeds), told)
        self.stands(("without", "s"), ("put", "s", MADE))
        self.assertEqual(self.session.attempt(tuple(deeds)[:2]), told[:2])
        self.assertEqual(self.session.attempt(deeds=[]), [])

    def test_the_deeds_count_one_by_one(self):
        self.session.attempt([("put", "n", MADE), ("attempt", [("without", "m"), ("put", "m", Made("ring"))])])
        for many in (2, 1, 0):
            self.assertIs(self.session.undo(), True)
            self.assertEqual(len(self.session.log()), many)

    def test_not_kept(self):
        self.session.put("n", MADE)
        deeds = [("put", "o", MADE), ("write", "src", "a", "7"), ("ask", ("o", "x")), ("attempt", [("without", "n")])]
        self.assertEqual(self.session.attempt(deeds, keep=False), [None, None, "7", [None]])
        self.stands(("put", "n", MADE))
        self.assertEqual(len(self.session.record), 2)
        self.assertIs(self.session.undo(), True)
        self.stands()
        self.assertEqual(self.session.attempt(deeds[:2], keep=True), [None, None])
        self.assertEqual(len(self.session.log()), 2)

    def test_undo_within_takes_back_only_its_own(self):
        self.session.put("n", MADE)
        told = self.session.attempt([("undo",), ("put", "o", MADE), ("attempt", [("undo",), ("without", "n"), ("undo",)]),
                                     ("undo",), ("undo",)])
        self.assertEqual(told, [False, None, [False, None, True], True, False])
        self.stands(("put", "n", MADE))
        # What an attempt within did belongs to the one around it, when it is over.
        told = self.session.attempt([("attempt", [("put", "o", MADE)]), ("undo",), ("undo",)])
        self.assertEqual(told, [[None], True, False])
        self.fails([("put", "o", MADE), ("attempt", [("undo",), ("no",)])], 1, 1)
        self.assertIs(self.session.undo(), True)
        self.assertIs(self.session.undo(), False)

    def test_within_one_another(self):
        for depth in range(8):
            deeds = [("put", f"o{depth}", MADE), ("ask", MX)]
            for level in range(depth):
                deeds = [("put", f"n{level}", MADE), ("attempt", deeds), ("ask", A)]
            told = self.session.attempt(deeds)
            for _ in range(depth):
                self.assertEqual((told[0], told[2]), (None, "1"))
                told = told[1]
            self.assertEqual(told, [None, "1"])
            self.assertEqual(len(self.session.log()), depth + 1)
            while self.session.undo():
                pass
            for bad in [("without", "no"), ("ask", ("s", "x")), ("no",), None, ("attempt", None)]:
                deeds = [("put", "o", MADE), ("undo",), ("write", "src", "a", "5"), bad]
                for _ in range(depth):
                    deeds = [("put", "n", MADE), ("attempt", tuple(deeds)), bad]
                self.fails(deeds, *[1] * depth, 3)
                self.fails(deeds, *[1] * depth, 3, keep=False)

    def test_deeds_that_raise(self):
        for deed in [("without", "no"), ("erase", "no", "a"), ("erase", "m", "a"), ("write", "m", "a", "1"),
                     ("ask", ("s", "x"))]:
            self.fails([deed], 0)
            self.fails([("put", "n", MADE), ("undo",), deed, ("put", "n", MADE)], 2)

    def test_one_thing_wrong_alone(self):
        right = [("put", "n", MADE), ("without", "m"), ("write", "src", "a", "2"), ("erase", "src", "a"), ("ask", MX),
                 ("undo",), ("attempt", [])]
        kinds = {"put": "nt", "without": "n", "write": "nnx", "erase": "nn", "ask": "k", "undo": "", "attempt": "d"}
        for deed in right:
            self.session.attempt([deed], keep=False)
            for item in [deed + (1,), deed[:-1], (deed,), (deed[0].upper(), *deed[1:]), (1, *deed[1:]), list(deed)]:
                self.fails([item], 0)
            for at, kind in enumerate(kinds[deed[0]], 1):
                for value in WRONG:
                    fits = {"n": isinstance(value, str) and value in ("put", "undo"), "x": isinstance(value, str), "t": False,
                            "k": value == ("src", "a"), "d": value == ()}
                    item = (*deed[:at], value, *deed[at + 1:])
                    if not fits[kind]:
                        self.fails([("ask", A), item], *([1] if kind != "d" or not isinstance(value, tuple) else [1, 0]))
        for value in WRONG:
            if value != ("undo",):
                self.fails([value], 0)

    def test_texts_and_names(self):
        for text in ["x" * 401, "\n", "\x7f", "\u00e9"]:
            self.fails([("write", "src", "a", text)], 0)
        self.session.attempt([("write", "a2345678", "b", "x" * 400)])
        for name in ["a23456789", "1a", "aB", "", "a b"]:
            self.fails([("write", name, "b", "")], 0)
            self.fails([("write", "src", name, "")], 0)
            self.fails([("put", name, MADE)], 0)
            self.fails([("ask", (name, "b"))], 0)

    def test_the_right_deeds_ahead_are_done_and_taken_back(self):
        self.fails([("write", "src", "a", "8"), ("ask", MX), ("attempt", [("write", "src", "a", "9"), ("ask", MX)]), (1,)], 3)
        self.assertEqual(len(self.session.record), 3)
        self.stands()
        self.fails([("ask", ("s", "x"))], 0)
        self.assertEqual(len(self.session.record), 4)

    def test_nothing_that_is_passed_is_changed(self):
        inner = [("put", "n", MADE)]
        deeds = [("attempt", inner), ("undo",)]
        self.session.attempt(deeds)
        self.assertEqual(deeds, [("attempt", [("put", "n", MADE)]), ("undo",)])
        self.session.put("n", MADE)
        inner.append(1)
        self.stands(("put", "n", MADE))

    def test_failed_is_an_error_of_the_package(self):
        with self.assertRaises(BuildError):
            self.session.attempt([None])


class ChanceTest(SessionCase):

    def deed(self, chance, depth):
        name, output = chance.choice(["src", "m", "s", "n"]), chance.choice("ab")
        deeds = [("put", name, chance.choice([SRC, MADE, Made("ring"), Source({})])), ("without", name), ("undo",),
                 ("write", name, output, chance.choice("123")), ("erase", name, output), ("ask", (name, "x")), ("undo",)]
        if depth < 4:
            deeds.append(("attempt", [self.deed(chance, depth + 1) for _ in range(chance.randint(0, 4))]))
        return chance.choice(deeds)

    def plain(self, stack, deeds, floor):
        """Does deeds with a list of projects and their deeds; a path if one fails."""
        for at, (word, *values) in enumerate(deeds):
            project = stack[-1][1]
            try:
                if word == "attempt":
                    self.plain(stack, values[0], len(stack))
                elif word == "undo":
                    if len(stack) > floor:
                        stack.pop()
                elif word == "ask":
                    Meaning(project, self.workshop).answer(values[0])
                else:
                    after = getattr(project, word)(*values)
                    if after != project:
                        stack.append(((word, *values), after))
            except Failed as inner:
                raise Failed((at, *inner.path))
            except BuildError:
                raise Failed((at,))

    def test_rows_of_attempts(self):
        chance, failed = random.Random(4), 0
        for _ in range(60):
            self.session, stack = Session(self.workshop, self.project), [(None, self.project)]
            for _ in range(12):
                deeds = [self.deed(chance, 0) for _ in range(chance.randint(1, 5))]
                before, path = list(stack), None
                try:
                    self.plain(stack, deeds, len(stack))
                except Failed as inner:
                    stack, path, failed = before, inner.path, failed + 1
                    with self.assertRaises(Failed) as caught:
                        self.session.attempt(deeds)
                    self.assertEqual(caught.exception.path, path)
                else:
                    self.session.attempt(deeds)
                if chance.random() < 0.3:
                    self.assertIs(self.session.undo(), len(stack) > 1)
                    del stack[max(1, len(stack) - 1):]
                self.assertEqual(self.session.log(), [deed for deed, _ in stack[1:]])
                self.assertEqual(self.session.project, stack[-1][1])
        self.assertGreater(failed, 100)


if __name__ == "__main__":
    unittest.main()
