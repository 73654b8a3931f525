"""Runs of programs, half done, as stage 8 tells them."""

import random
import unittest

from farenough.errors import Halted
from farenough.halfdone import ProgramRun
from farenough.machines import ProgramRecipe
from farenough.programs import Program
from farenough.runs import Run
from samples import STOP
from scripts import TEXTS, Doing, Script

EXAMPLE = 'recipe a\nrepeat 3 as k\nread x from a . "part"\nwrite "p" & digits(k) = x else "none"\nend'


class HalfDoneTest(unittest.TestCase):

    def begin(self, *lines, name="r", arguments=()):
        self.program = Program.read("\n".join(lines))
        return ProgramRun(name, self.program, arguments)

    def saves(self, run, *lines):
        """What is saved, and that what is restored from it saves the same and is at the same step."""
        saved = "\n".join(lines)
        for _ in range(2):
            self.assertEqual(run.saved(), saved)
        back = ProgramRun.restored(self.program, saved)
        self.assertIs(type(back), ProgramRun)
        self.assertEqual((back.place, back.step, back.trail, back.saved()), (run.place, run.step, (), saved))
        return back


class SavedTest(HalfDoneTest):

    def test_the_example(self):
        run = self.begin(EXAMPLE, arguments=("lib",))
        self.saves(run, "run 1:r 3:lib", "written", "count 0", "at 2 2", "loop 1 0 3", "let a 3:lib", "let k 0")
        run(("hello",))
        self.assertEqual(run.step, ("write", "p0", "hello"))
        self.saves(run, "run 1:r 3:lib", "answers 5:hello", "written", "count 0", "at 3 0", "loop 1 0 3", "let a 3:lib",
                   "let k 0", "let x 5:hello")
        run()
        self.saves(run, "run 1:r 3:lib", "answers 5:hello", "written p0", "count 1", "at 2 1", "loop 1 1 3", "let a 3:lib",
                   "let k 1")

    def test_the_first_step(self):
        run = self.begin('recipe', 'write "a" = "b"')
        self.saves(run, "run 1:r", "written", "count 0", "at 1 0")
        run = self.begin("", "recipe a b", "", "  let n = -5", 'write "a" = a & b', name="", arguments=("x",))
        self.saves(run, "run 0: 1:x", "written", "count 0", "at 2 1", "let a 1:x", "let b 0:", "let n -5")

    def test_the_end(self):
        run = self.begin("recipe a", arguments=("x", "y z", ""))
        self.saves(run, "run 1:r 1:x 3:y z 0:", "written", "count 0", "at end")
        run = self.begin("recipe", 'write "a" = "1"', 'read x from "a" . "b", y from "a" . "c"', 'write "b" = "1"', "let d = 1 / 0")
        run()
        run((None, "q"))
        run()
        back = self.saves(run, "run 1:r", "answers - 1:q", "written a b", "count 1", "at end")
        self.assertRaises(Halted, back)
        self.assertEqual(back.place, ("r", (), ((None, "q"),), 1))

    def test_values_of_all_kinds(self):
        run = self.begin("recipe", 'read x from "a" . "b", y from "a" . "c"', 'let l = split("a,,b c", ",")', "let e = []",
                         'let n = 1000000 * 1000000', "let z = 0", 'let t = " 1:] "', "let q = y", 'write "o" = "x"')
        run((None, "- [ ]"))
        self.saves(run, "run 1:r", "answers - 5:- [ ]", "written", "count 0", "at 8 6", "let x -", "let y 5:- [ ]",
                   "let l [ 1:a 0: 3:b c ]", "let e [ ]", "let n 1000000000000", "let z 0", "let t 5: 1:] ", "let q 5:- [ ]")

    def test_odd_texts_and_names(self):
        for text in ["", " ", "  ", "3:abc", "-", "[", "]", "[ 1:a ]", "let a 1:b", "a" * 400, "12", ":", "1:", "\\n", '"']:
            run = self.begin("recipe a", 'read x from "a" . "b"', 'write "o" = a', name=text, arguments=(text, text))
            word = f"{len(text)}:{text}"
            self.saves(run, f"run {word} {word} {word}", "written", "count 0", "at 1 0", f"let a {word}")
            run((text,))
            self.saves(run, f"run {word} {word} {word}", f"answers {word}", "written", "count 0", "at 2 0", f"let a {word}",
                       f"let x {word}")

    def test_loops_within_loops(self):
        run = self.begin("recipe", "repeat 2", "for i in [\"a\", \"b c\"]", "repeat 1 + 1 as k", "let m = k", "if k = 1",
                         'write "o" & digits(k) & item(split(i, " "), 0) = i', "end", "end", "end", "leave", "end")
        self.saves(run, "run 1:r", "written", "count 0", "at 6 11", "loop 1 0 2", "loop 2 0 [ 1:a 3:b c ]", "loop 3 1 2",
                   "let i 1:a", "let k 1", "let m 1")
        run()
        self.saves(run, "run 1:r", "written o1a", "count 1", "at 6 8", "loop 1 0 2", "loop 2 1 [ 1:a 3:b c ]",
                   "loop 3 1 2", "let i 3:b c", "let k 1", "let m 1")

    def test_only_what_is_visible(self):
        run = self.begin("recipe t", "let a = 1", "if t = t", "let b = 2", "else", "let c = 3", "end", "repeat 1 as k", "let d = 4",
                         "if 1 = 2", "let e = 5", "else", "let f = 6", 'write "o" = ""', "let g = 7", "end", "end")
        self.saves(run, "run 1:r", "written", "count 0", "at 13 8", "loop 7 0 1", "let t 0:", "let a 1", "let k 0", "let d 4",
                   "let f 6")

    def test_turns_before_the_statement(self):
        rows = ["recipe", "define f (number n) gives text", "repeat n", "end", 'give "o"', "end"]
        run = self.begin(*rows, "let a = f(10)", "write f(20) = f(30)", "if 1 = 1", "end", "write \"p\" = f(100)")
        self.saves(run, "run 1:r", "written", "count 0", "at 7 13", "let a 1:o")
        run()
        self.saves(run, "run 1:r", "written o", "count 1", "at 10 1", "let a 1:o")

    def test_turns_are_kept(self):
        run = self.begin("recipe", "repeat 290", "end", 'write "a" = "1"', "repeat 290", "end", 'read x from "a" . "b"',
                         *["if 1 = 1", "end"] * 5, 'write "b" = "1"')
        back = self.saves(run, "run 1:r", "written", "count 0", "at 3 291")
        for one in [run, back]:
            one()
            one(("",))
            self.assertEqual(one.step, ("write", "b", "1"))

    def test_a_restored_run_comes_to_the_same_fault(self):
        for many, step in [(298, ("write", "b", "1")), (299, STOP)]:
            run = self.begin("recipe", 'write "a" = "1"', f"repeat {many}", "end", 'write "b" = "1"')
            back = self.saves(run, "run 1:r", "written", "count 0", "at 1 0")
            back()
            self.assertEqual(back.step, step)


class RestoredTest(HalfDoneTest):

    def test_neither_moves_the_other(self):
        run = self.begin(EXAMPLE, arguments=("lib",))
        run(("hello",))
        back, copy = ProgramRun.restored(self.program, run.saved()), run.copied()
        self.assertIs(type(copy), ProgramRun)
        back()
        back(("other",))
        self.assertEqual((run.step, copy.step, back.step), (("write", "p0", "hello"), ("write", "p0", "hello"),
                                                            ("write", "p1", "other")))
        run()
        self.assertEqual((copy.step, back.step), (("write", "p0", "hello"), ("write", "p1", "other")))
        self.assertEqual((len(run.trail), len(copy.trail), len(back.trail)), (2, 1, 2))
        self.assertEqual(back.trail, ((("r", ("lib",), (("hello",),), 0), ("write", "p0", "hello")),
                                      (("r", ("lib",), (("hello",),), 1), ("read", (("lib", "part"),)))))

    def test_an_equal_program(self):
        run = self.begin(EXAMPLE, arguments=("lib",))
        other = Program.read("\n" + EXAMPLE.replace("\n", "\n\n").replace("=", " = "))
        self.assertEqual(ProgramRun.restored(other, run.saved()).saved(), run.saved())
        spread = ProgramRun("r", other, ("lib",))
        self.assertEqual(spread.saved(), run.saved())

    def test_a_run_of_a_recipe(self):
        run, plain = self.begin(EXAMPLE, arguments=("lib",)), Run("r", ProgramRecipe(Program.read(EXAMPLE)), ("lib",))
        self.assertIsInstance(run, Run)
        for answers in [("a",), (), (None,), (), ("",), ()]:
            self.assertEqual((run.place, run.step, run.trail), (plain.place, plain.step, plain.trail))
            run(answers)
            plain(answers)
        self.assertEqual((run.step, plain.step), (STOP, STOP))
        self.assertRaises(Halted, run)

    def test_interface(self):
        program = Program.read(EXAMPLE)
        run = ProgramRun(name="r", program=program, arguments=("lib",))
        self.assertEqual(ProgramRun.restored(program=program, saved=run.saved()).step, run.step)
        self.assertEqual(ProgramRun("r", program).place, ("r", (), (), 0))
        for name in ["saved", "restored", "copied"]:
            self.assertIn(name, vars(ProgramRun))
        self.assertIsInstance(vars(ProgramRun)["restored"], classmethod)

    def test_programs_by_chance(self):
        """At each step of many runs: what is saved, beside a plain reading, and what is restored goes on as a copy would."""
        taken = 0
        for seed in range(3000, 3500):
            script, chance = Script(seed), random.Random(seed)
            self.program = Program.read(script.text())
            name = chance.choice(TEXTS)
            arguments = tuple(chance.choice(TEXTS) for _ in range(chance.randint(0, 4)))
            run, steps = ProgramRun(name, self.program, arguments), Doing(script, name, arguments).steps()
            step, saved = next(steps)
            for _ in range(60):
                self.assertEqual(run.step, step)
                back = self.saves(run, saved)
                if step == STOP:
                    break
                answers = tuple(chance.choice(TEXTS + [None]) for _ in step[1]) if step[0] == "read" else ()
                copy = run.copied()
                self.assertEqual(copy.saved(), saved)
                for one in [copy, back, run]:
                    one(answers)
                self.assertEqual((copy.saved(), copy.trail), (run.saved(), run.trail))
                self.assertEqual((back.saved(), back.trail), (run.saved(), run.trail[-1:]))
                step, saved = steps.send(answers or None)
                run = chance.choice([run, back, copy])
                taken += 1
        self.assertGreater(taken, 300)


if __name__ == "__main__":
    unittest.main()
