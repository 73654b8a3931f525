"""The desk: points 10 to 15, and the interface of stage 12 under this file."""

import random
import unittest

from farenough.causes import causes
from farenough.desk import Desk
from farenough.engine import Engine
from farenough.errors import BadKind, BadLine, BadName, NoRow, NotSettled, NotSource, NoTarget, Stuck, Taken
from farenough.journals import Journal
from farenough.machines import ProgramRecipe
from farenough.meaning import Meaning
from farenough.programs import Program
from farenough.projects import Made, Project, Source
from farenough.walks import need
from farenough.workshops import Workshop
from samples import deep

UP = 'recipe tail ; read x from "src" . "a" ; write "x" = (x else "none") & tail'
RING = 'recipe ; read x from "s" . "x" ; write "x" = x else ""'
ANY = [None, True, False, 0, 1, -1, (), ("show",), (("show",),), deep(8), 7, ("ask", "m", "x")]


class DeskCase(unittest.TestCase):

    def setUp(self):
        self.desk = Desk()

    def says(self, *pairs):
        for row, answer in pairs:
            self.assertEqual(self.desk.say(row), answer, row)

    def begin(self):
        self.says((f"program up {UP}", "kept"), (f"program ring {RING}", "kept"), ("text src a hello", "done"),
                  ('made m up "!"', "done"), ("made s ring", "done"))

    def state(self):
        """What the desk tells about itself."""
        return [self.desk.say(row) for row in ["show", "need m x", "news", "need s x"]]

    def raises(self, error, *rows, **values):
        for row in rows:
            before = self.state()
            with self.assertRaises(error, msg=row) as caught:
                self.desk.say(row)
            self.assertIs(type(caught.exception), error)
            self.assertEqual(vars(caught.exception), values)
            self.assertEqual(self.state(), before)


class RowsTest(DeskCase):

    def test_programs(self):
        self.says((f"program up {UP}", "kept"), ("program x1 recipe", "kept"), ("program empty recipe ;  ; ", "kept"),
                  ("program r  recipe a ; write \"x\" = a ", "kept"))
        self.raises(BadLine, "program new ", line=1)
        self.raises(BadLine, "program new  ; ", line=2)
        self.raises(BadLine, "program new recipe ;stop", line=0)
        self.raises(BadLine, "program new recipe ;  ; stop ; stop ; leave", line=4)
        self.raises(BadName, "program new recipe ; let a = b", line=1, name="b")
        self.raises(BadKind, "program new recipe a ; let b = a + 1", line=1)
        # From the left on, without overlap.
        self.raises(BadLine, "program new recipe ; ; ; stop", "program new recipe ; ; stop", line=1)
        self.says(("program new recipe ; stop", "kept"))

    def test_taken(self):
        self.begin()
        self.raises(Taken, f"program up {UP}", "program up ", "program up no program at all", name="up")
        self.says(("made o lost", "done"), ("ask o x", "none"))
        self.raises(Taken, "program lost recipe", "program lost what", name="lost")
        self.says(("cut 0", "whole 0"), ("program lost recipe ; write \"x\" = \"1\"", "kept"), ("ask o x", "text 1"))

    def test_sources(self):
        self.says(("source src", "done"), ("source src", "nothing"), ("show", "src"), ("text src a 1", "done"),
                  ("text src a 1", "nothing"), ("text src a ", "done"), ("ask src a", "text "), ("text new b  two  words ", "done"),
                  ("ask new b", "text  two  words "), ("show", "new src"), ("erase new a", "nothing"), ("erase new b", "done"),
                  ("ask new b", "none"), ("source src", "done"), ("ask src a", "none"), ("text src a " + "x" * 400, "done"),
                  ("drop new", "done"), ("show", "src"), ("drop src", "done"), ("show", "none"))
        self.raises(NoTarget, "drop src", "erase src a", name="src")

    def test_made_targets(self):
        self.begin()
        self.says(("made m up \"!\"", "nothing"), ("made m up", "done"), ("made m up \"\"", "done"), ("made k src.r", "done"),
                  ("made k src.r", "nothing"), ('made four up "1" "2" "3" ";x,~"', "done"), ("ask four x", "text hello1"),
                  ("show", "four k m s src"), ("ask k x", "none"), ("text src r up", "done"), ("ask k x", "text hello"))
        self.raises(NotSource, "erase m x", "text m x 1", name="m")

    def test_undo(self):
        self.says(("undo", "nothing"))
        self.begin()
        self.says(("text src a hello", "nothing"), ("undo", "done"), ("show", "m src"), ("undo", "done"), ("undo", "done"),
                  ("show", "none"), ("undo", "nothing"))

    def test_ask(self):
        self.begin()
        self.says(("ask m x", "text hello!"), ("news", "2"), ("ask m x", "text hello!"), ("news", "0"), ("ask m y", "none"),
                  ("news", "1"), ("ask s x", "ring s.x"), ("news", "1"), ("ask s y", "ring s.x"), ("news", "0"),
                  ("ask no x", "none"), ("ask src a", "text hello"))
        other = 'recipe ; read x from "q" . "y" ; write "x" = "1"'
        last = 'recipe ; read x from "p" . "x" ; write "y" = "1"'
        self.says((f"program other {other}", "kept"), (f"program last {last}", "kept"), ("made p other", "done"),
                  ("made q last", "done"))
        self.assertIn(self.desk.say("ask p x"), ["ring p.x q.y", "ring q.y p.x"])

    def test_need_causes_and_news(self):
        self.says(("news", "0"), ("need m x", "0"), ("causes m x", "m.x"))
        self.begin()
        self.raises(NotSettled, "causes m x", key=("m", "x"))
        self.says(("need m x", "0"), ("ask m x", "text hello!"), ("need m x", "2"), ("need m y", "2"), ("causes m x", "src.a"),
                  ("causes src b", "src.b"), ("need src a", "0"), ("ask s x", "ring s.x"), ("need s x", "1"))
        self.raises(NotSettled, "causes s x", key=("s", "x"))
        self.says(('program pair recipe ; read x from "m" . "x", y from "no" . "y" ; write "x" = "1"', "kept"), ("made p pair", "done"),
                  ('program own recipe ; write "x" = "1"', "kept"), ("made o own", "done"), ("ask o x", "text 1"),
                  ("causes o x", "none"), ("ask p x", "text 1"), ("causes p x", "no.y src.a"), ("need p x", "4"), ("news", "2"))

    def test_show(self):
        self.says(("show", "none"), ("source b", "done"), ("source a", "done"), ("source b1", "done"), ("show", "a b b1"))


class CutTest(DeskCase):

    def test_each_place(self):
        self.begin()
        rows = ["ask m x", "ask m y", "ask s x"]
        answers = [self.desk.say(row) for row in rows]
        engine = Engine(Workshop({"up": ProgramRecipe(Program.read(UP.replace(" ; ", "\n"))),
                                  "ring": ProgramRecipe(Program.read(RING.replace(" ; ", "\n")))}))
        project = Project({"src": Source({"a": "hello"}), "m": Made("up", ["!"]), "s": Made("ring")})
        journal = Journal()
        for key in [("m", "x"), ("m", "y"), ("s", "x")]:
            for place, step in engine.pursue(project, [key]):
                journal.add(place, step)
        text = journal.text
        for many in range(len(text) + 2):
            # The desk writes the steps behind a cut in the order in which they are taken again.
            self.setUp()
            self.begin()
            for row in rows:
                self.desk.say(row)
            left = Journal(text[:many])
            state = "torn" if left.is_torn else "whole"
            self.says((f"cut {many}", f"{state} {len(left)}"), ("news", "1"), ("need m x", str(min(len(left), 2))))
            needs = [need(project, engine.record, key) for key in [("m", "x"), ("m", "y"), ("s", "x")]]
            news = [str(len(needed) - len(needed & left.record)) for needed in needs]
            self.says((rows[0], answers[0]), ("news", news[0]), (rows[1], answers[1]), ("news", "1" if len(left) < 3 else "0"),
                      (rows[2], answers[2]), ("news", news[2]), ("cut 999999", "whole 4"), ("undo", "done"), ("show", "m src"))

    def test_cut_again_and_again(self):
        self.begin()
        self.says(("ask m x", "text hello!"), ("cut 999999", "whole 2"), ("cut 40", "torn 1"), ("cut 999999", "whole 1"), ("cut 0", "whole 0"),
                  ("cut 1", "whole 0"), ("ask m x", "text hello!"), ("news", "2"))

    def test_the_project_stays(self):
        self.begin()
        self.says(("cut 0", "whole 0"), ("show", "m s src"), ("undo", "done"), ("show", "m src"), (f"program up2 {UP}", "kept"),
                  ("undo", "done"), ("show", "src"))


class NoRowTest(DeskCase):

    def test_any_values(self):
        for value in ANY:
            with self.assertRaises(NoRow):
                self.desk.say(value)
        self.assertEqual(self.desk.say(row="show"), "none")

    def test_each_way_to_miss_a_form(self):
        self.begin()
        rows = ["", " ", "no", "Show", "SHOW", " show", "show ", "show m", "show\n", "\nshow", "news 1", "news ", "undo 1", "undo ",
                "program", "program up", "program Up recipe", "program  recipe", "program a23456789 recipe", "program 1a recipe",
                "program new recipe\nstop", "source", "source ", "source a b", "source A", "source a.b", "source a ", "source  a",
                "text", "text a", "text a b", "text a B c", "text 1 b c", "text  b c", "text a  c", "text a b x\n",
                "text a b " + "x" * 401, "text a b \x7f", "text a b \t", "text a b \u00e9", "erase", "erase src", "erase src a ", "erase src a b",
                "erase src ", "erase Src a", "erase src.a", "drop", "drop ", "drop m s", "drop m ", "drop M", "made", "made n", "made n ",
                "made n up ", "made n Up", "made n up up", "made n up 1", "made n up !", 'made n up "', 'made n up "a', 'made n up a"',
                'made n up """', 'made n up "a"b"', 'made n up "a b"', 'made n up "a"  "b"', 'made n up "a" ', "made n up 'a'",
                'made n up "1" "2" "3" "4" "5"', "made n .x", "made n m.", "made n m.x.y", "made n m.X", "made N up", 'made "n" up',
                'made n up "' + "x" * 401 + '"', 'made n up "\x7f"', "made n a23456789", "made n m. x", 'made n "up"',
                "ask", "ask m", "ask m ", "ask m x ", "ask m x y", "ask m.x", "ask M x", "ask m X", "ask  m x", "need m", "need m x y",
                "need m X", "causes m", "causes m x ", "causes m 1", "cut", "cut ", "cut x", "cut -1", "cut 01", "cut 00", "cut 1234567",
                "cut 1 2", "cut 1.0", "cut +1", "cut 1 ", "cut \u00b2", "cut \u0663", "asks m x", "desk", "put a b"]
        self.raises(NoRow, *rows)

    def test_what_just_fits(self):
        self.begin()
        self.says(("cut 100000", "whole 0"), ("text a2345678 b2345678 " + "x" * 400, "done"), ('made n up "' + "x" * 400 + '"', "done"),
                  ('made n up ";" "," "~" "-"', "done"), ("text a b \"", "done"), ('ask a b', 'text "'))


class ChanceTest(DeskCase):

    def test_the_same_as_an_engine_and_the_meaning(self):
        programs = {"up": UP, "ring": RING, "two": 'recipe ; write "w" = "1" ; read x from "m" . "x", y from "n" . "w" ; '
                    'write "x" = (x else "?") & (y else "!")', "if": 'recipe ; read x from "src" . "a" ; if known x ; '
                    'read y from "n" . "x" ; write "x" = y else "" ; else ; write "y" = "0" ; end'}
        parsed = {name: ProgramRecipe(Program.read(text.replace(" ; ", "\n"))) for name, text in programs.items()}
        workshop, chance = Workshop(parsed), random.Random(12)
        for _ in range(40):
            self.setUp()
            for name, text in programs.items():
                self.says((f"program {name} {text}", "kept"))
            project, engine = Project({}), Engine(workshop)
            for _ in range(30):
                project, engine = self.step(project, engine, workshop, chance)
                self.says(("show", " ".join(project.names) or "none"))

    def step(self, project, engine, workshop, chance):
        name, key = chance.choice("mnso"), (chance.choice("mnso"), chance.choice("wxy"))
        kind, text = chance.choice(["made", "made", "text", "drop", "ask", "ask", "ask", "cut"]), chance.choice("12")
        if kind == "made":
            recipe = chance.choice(["up", "ring", "two", "if", "src.a"])
            target = Made(("src", "a") if "." in recipe else recipe, [text])
            before, project = project, project.put(name, target)
            self.says((f'made {name} {recipe} "{text}"', "nothing" if before == project else "done"))
        elif kind == "text":
            before, project = project, project.write("src", "a", chance.choice(["up", "two", "1"]))
            self.says((f"text src a {project['src'].outputs['a']}", "nothing" if before == project else "done"))
        elif kind == "drop" and name in project:
            project = project.without(name)
            self.says((f"drop {name}", "done"))
        elif kind == "ask":
            self.ask(project, engine, workshop, key)
        elif kind == "cut":
            journal = Journal()
            for place, step in engine.news:
                journal.add(place, step)
            if chance.random() < 0.5:
                self.says(("cut 999999", f"whole {len(journal)}"))
            else:
                self.says(("cut 0", "whole 0"))
                engine = Engine(workshop)
        return project, engine

    def ask(self, project, engine, workshop, key):
        news, meaning = len(engine.news), Meaning(project, workshop)
        try:
            answer = engine.ask(project, key)
        except Stuck:
            self.assertRegex(self.desk.say("ask " + " ".join(key)), r"^ring( [a-z]+\.[a-z]+)+$")
            self.assertIs(meaning.is_settled(key), False)
        else:
            self.assertEqual(meaning.answer(key), answer)
            self.says(("ask " + " ".join(key), "none" if answer is None else f"text {answer}"),
                      ("causes " + " ".join(key), " ".join(map(".".join, causes(project, engine.record, key))) or "none"))
        self.says(("news", str(len(engine.news) - news)),
                  ("need " + " ".join(key), str(len(need(project, engine.record, key)))))


if __name__ == "__main__":
    unittest.main()
