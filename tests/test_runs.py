"""Runs: points 4 and 5."""

import unittest

from farenough.errors import Halted
from farenough.recipes import Recipe, TreeRecipe
from farenough.runs import Run
from farenough.workshops import Workshop
from samples import STOP, read, write

A, B, C, D = ("a", "x"), ("b", "x"), ("c", "x"), ("d", "x")
LONG = TreeRecipe(write("x", ("<", (0, 0), ">"), read((A,), ((("end",), STOP),), write("y", ((1, 0),), write(
    "z", ("z",), read((A, B, C, D), (), write("v", ((2, 1), (2, 3)))))))))


def by_hand(arguments):
    return Run("long", LONG, arguments)


def by_workshop(arguments):
    return Workshop({"long": LONG}).begin("long", arguments)


class RunTest(unittest.TestCase):

    def check(self, run, place, step, trail):
        self.assertEqual(run.place, place)
        self.assertEqual(run.step, step)
        self.assertEqual(run.trail, tuple(trail))
        self.assertIs(type(run.trail), tuple)

    def check_halted(self, run):
        before = (run.place, run.step, run.trail)
        for _ in range(2):
            with self.assertRaises(Halted):
                run()
            with self.assertRaises(Halted):
                run(("1",))
            self.assertEqual((run.place, run.step, run.trail), before)

    def test_each_step(self):
        for begin in (by_hand, by_workshop):
            for arguments in [(), ("arg",), ("arg", "", "c", "d")]:
                self.check_each_step(begin(arguments), arguments)

    def check_each_step(self, run, arguments):
        four = (None, "", "e", "f")
        way = [
            (("long", arguments, (), 0), ("write", "x", "<" + "".join(arguments[:1]) + ">"), None),
            (("long", arguments, (), 1), ("read", (A,)), ("a",)),
            (("long", arguments, (("a",),), 0), ("write", "y", "a"), None),
            (("long", arguments, (("a",),), 1), ("write", "z", "z"), None),
            (("long", arguments, (("a",),), 2), ("read", (A, B, C, D)), four),
            (("long", arguments, (("a",), four), 0), ("write", "v", "f"), None),
            (("long", arguments, (("a",), four), 1), STOP, None),
        ]
        trail = []
        for place, step, answers in way:
            self.check(run, place, step, trail)
            if step == STOP:
                break
            self.assertIs(run() if answers is None else run(answers), None)
            trail.append((place, step))
        self.check_halted(run)

    def test_reads_of_one_to_four_keys(self):
        keys = (A, B, C, D)
        for many in range(1, 5):
            for answers in [("1", "2", "3", "4")[:many], (None,) * many, ("1", None, "", None)[:many]]:
                run = Run("r", TreeRecipe(read(keys[:many], ((answers, write("fits")),))))
                run(answers)
                place = ("r", (), (), 0)
                self.check(run, ("r", (), (answers,), 0), ("write", "fits", ""), [(place, ("read", keys[:many]))])

    def test_without_arguments(self):
        for run in [Run("r", LONG), Workshop({"r": LONG}).begin("r")]:
            self.assertEqual(run.place, ("r", (), (), 0))
            self.assertEqual(run.step, ("write", "x", "<>"))

    def test_halted_at_once(self):
        run = Run("r", Recipe(), ("a",))
        self.check(run, ("r", ("a",), (), 0), STOP, [])
        self.check_halted(run)

    def test_a_name_without_a_recipe_stops_at_once(self):
        run = Workshop({"long": LONG}).begin("other", ("a",))
        self.check(run, ("other", ("a",), (), 0), STOP, [])
        self.check_halted(run)

    def test_halted_at_a_text_that_is_too_long(self):
        run = Run("r", TreeRecipe(read((A,), (), write("x", ((1, 0), "b")))))
        run(("a" * 400,))
        self.check(run, ("r", (), (("a" * 400,),), 0), STOP, [(("r", (), (), 0), ("read", (A,)))])
        self.check_halted(run)

    def test_any_text_is_a_name(self):
        for name in ["", "a b", "LONG", "~" * 400]:
            run = Run(name, LONG)
            run()
            self.assertEqual(run.place, (name, (), (), 1))

    def test_two_runs_of_one_recipe_go_on_apart(self):
        one, other = Run("r", LONG), Run("r", LONG)
        one()
        one(("1",))
        self.check(other, ("r", (), (), 0), ("write", "x", "<>"), [])

    def test_a_trail_that_was_taken_stays_as_it_was(self):
        run = Run("r", LONG)
        before = run.trail
        run()
        self.assertEqual(before, ())

    def test_by_names(self):
        run = Run(name="r", recipe=LONG, arguments=("q",))
        run()
        run(answers=("end",))
        self.assertEqual(run.place, ("r", ("q",), (("end",),), 0))
        self.assertEqual(run.step, STOP)


class CopyTest(unittest.TestCase):

    def state(self, run):
        return run.place, run.step, run.trail

    def test_a_copy_stands_at_the_same_place(self):
        run = Run("r", LONG, ("q",))
        for answers in [None, ("1",), None, None, (None, "2", "3", None), None]:
            copy = run.copied()
            self.assertIs(type(copy), Run)
            self.assertIsNot(copy, run)
            self.assertEqual(self.state(copy), self.state(run))
            run() if answers is None else run(answers)
        self.assertEqual(run.copied().step, STOP)
        with self.assertRaises(Halted):
            run.copied()()

    def test_a_copy_and_the_first_run_go_on_apart(self):
        run = Run("r", LONG)
        run()
        copy = run.copied()
        ahead = run.trail
        run(("1",))
        run()
        self.assertEqual(self.state(copy), (("r", (), (), 1), ("read", (A,)), ahead))
        first = self.state(run)
        copy(("end",))
        self.assertEqual(copy.step, STOP)
        self.assertEqual(copy.trail, ahead + ((("r", (), (), 1), ("read", (A,))),))
        self.assertEqual(self.state(run), first)
        run()
        self.assertEqual(copy.place, ("r", (), (("end",),), 0))

    def test_a_copy_of_a_copy(self):
        run = Run("r", LONG)
        one = run.copied()
        other = one.copied()
        one()
        self.assertEqual(self.state(run), self.state(other))
        self.assertEqual(one.place, ("r", (), (), 1))


class InterfaceTest(unittest.TestCase):

    def test_methods_stand_in_the_classes_themselves(self):
        for name in ["place", "step", "__call__", "copied", "trail"]:
            self.assertIn(name, vars(Run))
        for name in ["__contains__", "__len__", "step_at", "begin", "changed"]:
            self.assertIn(name, vars(Workshop))


if __name__ == "__main__":
    unittest.main()
