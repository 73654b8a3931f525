"""Workshops: points 4, 5 and 7."""

import unittest

from farenough.recipes import Recipe, TreeRecipe
from farenough.runs import Run
from farenough.workshops import Workshop
from samples import STOP, read, write

A = ("a", "x")
COPY = TreeRecipe(read((A,), (), write("x", ((1, 0), (0, 0)))))
HELLO = TreeRecipe(write("x", ("hello",)))


class WorkshopTest(unittest.TestCase):

    def test_in(self):
        workshop = Workshop({"copy": COPY, "": HELLO, "a b": Recipe()})
        for name in ["copy", "", "a b"]:
            self.assertIs(name in workshop, True)
            self.assertIs(name not in workshop, False)
        for name in ["cop", "COPY", "b", " "]:
            self.assertIs(name in workshop, False)
        self.assertIs("copy" in Workshop({}), False)

    def test_len(self):
        self.assertEqual(len(Workshop({})), 0)
        self.assertEqual(len(Workshop({"copy": COPY})), 1)
        self.assertEqual(len(Workshop({"copy": COPY, "other": COPY, "hello": HELLO})), 3)
        self.assertEqual(len(Workshop({str(at): COPY for at in range(500)})), 500)

    def test_step_at(self):
        workshop = Workshop({"copy": COPY, "hello": HELLO})
        self.assertEqual(workshop.step_at(("copy", (), (), 0)), ("read", (A,)))
        self.assertEqual(workshop.step_at(("copy", ("!",), (("1",),), 0)), ("write", "x", "1!"))
        self.assertEqual(workshop.step_at(("copy", (), ((None,),), 1)), STOP)
        self.assertEqual(workshop.step_at(("hello", ("!",), (), 0)), ("write", "x", "hello"))

    def test_step_at_of_a_name_without_a_recipe(self):
        for workshop in [Workshop({}), Workshop({"copy": COPY})]:
            for name in ["other", "", "Copy"]:
                self.assertEqual(workshop.step_at((name, ("a",), (), 0)), STOP)

    def test_begin(self):
        workshop = Workshop({"copy": COPY})
        run = workshop.begin("copy", ("!",))
        self.assertIsInstance(run, Run)
        run(("1",))
        self.assertEqual((run.place, run.step), (("copy", ("!",), (("1",),), 0), ("write", "x", "1!")))
        again = workshop.begin("copy", ("!",))
        self.assertEqual((again.place, again.step, again.trail), (("copy", ("!",), (), 0), ("read", (A,)), ()))
        self.assertEqual(workshop.begin("copy").place, ("copy", (), (), 0))

    def test_changed(self):
        first = Workshop({"copy": COPY})
        second = first.changed("copy", HELLO)
        third = first.changed("new", HELLO)
        place, new = ("copy", (), (), 0), ("new", (), (), 0)
        self.assertEqual([shop.step_at(place)[0] for shop in (first, second, third)], ["read", "write", "read"])
        self.assertEqual([shop.step_at(new)[0] for shop in (first, second, third)], ["stop", "stop", "write"])
        self.assertEqual([len(shop) for shop in (first, second, third)], [1, 1, 2])
        self.assertEqual(["new" in shop for shop in (first, second, third)], [False, False, True])
        self.assertIs(type(second), Workshop)

    def test_runs_that_began_ahead_of_a_change_go_on_as_they_began(self):
        first = Workshop({"copy": COPY})
        run = first.begin("copy")
        first.changed("copy", HELLO)
        run(("1",))
        self.assertEqual(run.step, ("write", "x", "1"))

    def test_the_dict_may_be_changed_behind_the_call(self):
        recipes = {"copy": COPY}
        workshop = Workshop(recipes)
        self.assertEqual(recipes, {"copy": COPY})
        recipes["copy"] = HELLO
        recipes["new"] = HELLO
        self.assertEqual(len(workshop), 1)
        self.assertIs("new" in workshop, False)
        self.assertEqual(workshop.step_at(("copy", (), (), 0)), ("read", (A,)))
        recipes.clear()
        self.assertIs("copy" in workshop, True)

    def test_changed_leaves_the_dict_as_it_was(self):
        recipes = {"copy": COPY}
        Workshop(recipes).changed("new", HELLO)
        self.assertEqual(list(recipes), ["copy"])

    def test_by_names(self):
        workshop = Workshop(recipes={"copy": COPY}).changed(name="hello", recipe=HELLO)
        self.assertEqual(workshop.step_at(place=("hello", (), (), 0)), ("write", "x", "hello"))
        self.assertEqual(workshop.begin(name="hello", arguments=("q",)).place, ("hello", ("q",), (), 0))

    def test_equal_to_no_value_of_another_class(self):
        workshop = Workshop({})
        for value in [None, {}, (), 0, False, "", Recipe()]:
            self.assertIs(workshop == value, False)


if __name__ == "__main__":
    unittest.main()
