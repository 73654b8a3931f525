"""Targets and projects: points 2 and 8."""

import itertools
import unittest

from farenough.errors import NotSource, NoTarget
from farenough.projects import Made, Project, Source, Target
from farenough.recipes import Recipe


class TargetTest(unittest.TestCase):

    def test_sources(self):
        source = Source({"a": "1", "b": ""})
        self.assertEqual(source.outputs, {"a": "1", "b": ""})
        self.assertIs(type(source.outputs), dict)
        self.assertEqual(Source(outputs={}).outputs, {})
        self.assertIsInstance(source, Target)

    def test_the_dict_of_outputs_is_new(self):
        outputs = {"a": "1"}
        source = Source(outputs)
        outputs["a"] = "2"
        outputs["b"] = "3"
        self.assertEqual(source.outputs, {"a": "1"})
        taken = source.outputs
        taken["a"] = "4"
        taken.pop("a")
        self.assertEqual(source.outputs, {"a": "1"})
        self.assertIsNot(source.outputs, source.outputs)

    def test_made(self):
        made = Made("pair", ("a", ""))
        self.assertEqual((made.recipe, made.arguments), ("pair", ("a", "")))
        made = Made(("lib", "name"))
        self.assertEqual((made.recipe, made.arguments), (("lib", "name"), ()))
        made = Made(recipe="", arguments=["a"])
        self.assertEqual((made.recipe, made.arguments), ("", ("a",)))
        self.assertIs(type(made.arguments), tuple)
        self.assertIsInstance(made, Target)

    def test_the_list_of_arguments_may_be_changed_afterwards(self):
        arguments = ["a", "b"]
        made = Made("r", arguments)
        arguments.append("c")
        arguments[0] = "d"
        self.assertEqual(made.arguments, ("a", "b"))

    def test_equal_exactly_if_of_one_class_with_the_same_values(self):
        targets = [Source({}), Source({"a": "1"}), Source({"a": "2"}), Source({"b": "1"}), Source({"a": "1", "b": "1"}),
                   Source({"a": ""}), Made("a"), Made("b"), Made(""), Made("a", ("",)), Made("a", ("1",)),
                   Made("a", ("1", "2")), Made("a", ("2", "1")), Made(("a", "b")), Made(("b", "a")),
                   Made(("a", "b"), ("1",))]
        for (at, one), (to, other) in itertools.product(enumerate(targets), repeat=2):
            self.assertIs(one == other, at == to)
            self.assertIs(one != other, at != to)
        self.assertTrue(Source({"a": "1", "b": "2"}) == Source({"b": "2", "a": "1"}))
        self.assertTrue(Made("a", ["1"]) == Made("a", ("1",)))
        self.assertTrue(Made(("a", "b"), []) == Made(("a", "b")))

    def test_equal_to_nothing_else(self):
        for target in [Source({}), Source({"a": "1"}), Made("a"), Made(("a", "b"))]:
            for value in [None, {}, {"a": "1"}, "a", ("a", "b"), ("a", ()), (), 0, False, Recipe(), Target(),
                          Project({}), Project({"a": target})]:
                self.assertIs(target == value, False)
                self.assertIs(value == target, False)
                self.assertIs(target != value, True)


class ProjectTest(unittest.TestCase):

    def setUp(self):
        self.lib = Source({"a": "1", "b": "2"})
        self.page = Made("page", ("x",))
        self.project = Project({"page": self.page, "lib": self.lib})

    def check_unchanged(self):
        self.assertEqual(self.project.names, ("lib", "page"))
        self.assertEqual(len(self.project), 2)
        self.assertEqual(self.project["lib"].outputs, {"a": "1", "b": "2"})
        self.assertEqual((self.project["page"].recipe, self.project["page"].arguments), ("page", ("x",)))

    def check_error(self, error, name, call, *values):
        with self.assertRaises(error) as caught:
            call(*values)
        self.assertEqual(caught.exception.name, name)
        self.assertIs(type(caught.exception), error)
        self.check_unchanged()

    def test_items(self):
        self.assertEqual(self.project["lib"], self.lib)
        self.assertEqual(self.project["page"], self.page)
        for name in ["li", "libs", "x", "a"]:
            self.check_error(NoTarget, name, self.project.__getitem__, name)
            self.assertIs(name in self.project, False)
            with self.assertRaises(NoTarget):
                Project({})[name]
        self.assertIs("lib" in self.project, True)

    def test_len_and_names(self):
        self.assertEqual(len(Project({})), 0)
        self.assertEqual(Project({}).names, ())
        self.check_unchanged()
        names = ["b", "a", "a1", "aa", "z", "b0"]
        for order in itertools.permutations(names, 3):
            self.assertEqual(Project({name: self.lib for name in order}).names, tuple(sorted(order)))
        self.assertIs(type(self.project.names), tuple)

    def test_not_iterated_over(self):
        with self.assertRaises(TypeError):
            list(self.project)

    def test_equal(self):
        other = Project({"lib": Source({"b": "2", "a": "1"}), "page": Made("page", ["x"])})
        self.assertIs(self.project == other, True)
        self.assertIs(self.project != other, False)
        for changed in [other.put("page", Made("page")), other.without("lib"), other.put("new", self.lib), Project({}),
                        other.write("lib", "a", "2"), other.erase("lib", "a"), other.put("lib", self.page)]:
            self.assertIs(self.project == changed, False)
            self.assertIs(self.project != changed, True)
        for value in [None, {}, (), 0, False, "", {"lib": self.lib, "page": self.page}, self.lib, Recipe()]:
            self.assertIs(self.project == value, False)
            self.assertIs(Project({}) == value, False)

    def test_put(self):
        new = self.project.put("new", self.page)
        self.assertEqual(new.names, ("lib", "new", "page"))
        self.assertEqual(new["new"], self.page)
        self.assertEqual(new["lib"], self.lib)
        other = self.project.put("lib", self.page)
        self.assertEqual((other.names, other["lib"], other["page"]), (("lib", "page"), self.page, self.page))
        self.assertEqual(self.project.put("lib", self.lib), self.project)
        self.check_unchanged()

    def test_without(self):
        rest = self.project.without("lib")
        self.assertEqual((rest.names, rest["page"]), (("page",), self.page))
        self.assertEqual(rest.without("page"), Project({}))
        self.check_error(NoTarget, "new", self.project.without, "new")
        self.check_error(NoTarget, "lib", rest.without, "lib")
        self.check_unchanged()

    def test_write(self):
        other = self.project.write("lib", "a", "3")
        self.assertEqual(other["lib"].outputs, {"a": "3", "b": "2"})
        self.assertEqual(other["page"], self.page)
        more = self.project.write("lib", "c", "")
        self.assertEqual(more["lib"].outputs, {"a": "1", "b": "2", "c": ""})
        self.assertEqual(self.project.write("lib", "a", "1"), self.project)
        self.check_unchanged()

    def test_write_makes_a_source_that_is_not_there(self):
        more = self.project.write("new", "a", "1")
        self.assertEqual(more.names, ("lib", "new", "page"))
        self.assertEqual(more["new"], Source({"a": "1"}))
        self.assertEqual(Project({}).write("new", "a", "1"), Project({"new": Source({"a": "1"})}))
        self.check_unchanged()

    def test_write_to_a_made_target(self):
        self.check_error(NotSource, "page", self.project.write, "page", "a", "1")

    def test_erase(self):
        less = self.project.erase("lib", "a")
        self.assertEqual(less["lib"].outputs, {"b": "2"})
        self.assertEqual(less["page"], self.page)
        self.assertEqual(less.erase("lib", "b")["lib"], Source({}))
        self.check_unchanged()

    def test_erase_an_output_that_is_not_there(self):
        self.assertEqual(self.project.erase("lib", "c"), self.project)
        self.assertIs(type(self.project.erase("lib", "c")), Project)
        self.check_unchanged()

    def test_erase_of_what_is_no_source(self):
        self.check_error(NoTarget, "new", self.project.erase, "new", "a")
        self.check_error(NotSource, "page", self.project.erase, "page", "a")

    def test_the_dict_may_be_changed_behind_the_call(self):
        targets = {"lib": self.lib}
        project = Project(targets)
        self.assertEqual(targets, {"lib": self.lib})
        targets["lib"] = self.page
        targets["new"] = self.page
        self.assertEqual((project.names, project["lib"]), (("lib",), self.lib))
        targets.clear()
        self.assertEqual(len(project), 1)

    def test_by_names(self):
        project = Project(targets={}).put(name="page", target=self.page).write(name="lib", output="a", text="1")
        self.assertEqual(project.names, ("lib", "page"))
        self.assertEqual(project.erase(name="lib", output="a").without(name="page"), Project({"lib": Source({})}))

    def test_methods_stand_in_the_classes_themselves(self):
        for name in ["__getitem__", "__contains__", "__len__", "__eq__", "names", "put", "without", "write", "erase"]:
            self.assertIn(name, vars(Project))
        for target, names in [(Source, ["outputs", "__eq__"]), (Made, ["recipe", "arguments", "__eq__"])]:
            for name in names:
                self.assertIn(name, vars(target))


if __name__ == "__main__":
    unittest.main()
